/- Proved parts: T9w T8r T8p T8d T9t T9i T9b. Conditions: each theorem's own. -/
import Derived.Test.YtoljhoabbaigdaaGreatM8
import Derived.ArgAppend
import Derived.Deep.MidRow
import Derived.BigQuiet
import Derived.Lib.Overlaps
import Derived.Lib.AppendZerosOnto
import Derived.RegionTactic
import Derived.Deep.RegionLaw
import Derived.Test.YtoljhoabbaigdaaGreatQ2
set_option maxRecDepth 100000
set_option maxHeartbeats 8000000
namespace Go.Proofs.YtoljhoabbaigdaaGreat
open Go.RowKit

def it2 (x:ByteArray × Int):List Value:=[.string x.1,.int .i64 x.2]
def itc (l:KV):List Value:=l.flatMap it2
theorem itc_len (l:KV):(itc l).length=l.length * 2:=flat_len (f:=it2) (n:=2) (fun _=>rfl) l
theorem itc_append (a b:KV):itc (a++b)=itc a++itc b:=by unfold itc; simp
theorem itc_cons (x:ByteArray × Int) (b:KV):itc (x :: b)=it2 x++itc b:=by unfold itc; simp
theorem itc_one (l:KV):∀ u ∈ itc l,u.oneCell'=true:=by
 intro u hu
 unfold itc at hu
 rw [List.mem_flatMap] at hu
 obtain ⟨x,_,hx⟩:=hu
 unfold it2 at hx
 simp at hx
 rcases hx with rfl | rfl<;>rfl
theorem infoIt:(Tryz.prog.info? 221).map (fun i=>(i.zero,i.size,i.bytes))=some (some (.agg #[.string ⟨#[]⟩,.int .i64 0]),2,24):=by kernel_rfl

theorem rangeAt_append {w:World} {b o:Nat} {x y:List Value}:w.rangeAt b o (x++y)↔w.rangeAt b o x∧w.rangeAt b (o+x.length) y:=by
 constructor
 ·intro h
  refine ⟨fun j v hj=>h j v ?_,fun j v hj=>?_⟩
  ·rw [List.getElem?_append_left (List.getElem?_eq_some_iff.1 hj).1]; exact hj
  ·rw [Nat.add_assoc]
   refine h _ v ?_
   rw [List.getElem?_append_right (by omega),Nat.add_sub_cancel_left]; exact hj
 ·rintro ⟨h1,h2⟩ j v hj
  by_cases q:j<x.length
  ·exact h1 j v (by rwa [List.getElem?_append_left q] at hj)
  ·rw [List.getElem?_append_right (by omega)] at hj
   have:=h2 _ v hj
   rwa [show o+x.length+(j-x.length)=o+j by omega] at this
def Plain (w:World) (b:Nat):Prop:=∃ cur,w.heap[b]?=some (.cells cur 221 (0,0))
theorem Plain.lt {w:World} {b:Nat} (h:Plain w b):b<w.heap.size:=by obtain ⟨_,h⟩:=h; exact (Array.getElem?_eq_some_iff.1 h).1
theorem Plain.setCell {w:World} {b:Nat} (h:Plain w b) (p:Addr) (u:Value):Plain (w.setCell p u) b:=by
 obtain ⟨cur,h⟩:=h
 by_cases e:b=p.block
 ·subst e
  unfold Plain World.setCell
  simp only [Array.getElem?_modify]
  rw [h]
  exact ⟨_,rfl⟩
 ·exact ⟨cur,(Below.heap_setCell _ _ _ _ e).trans h⟩
theorem Plain.setCells {b:Nat} (g:Nat):∀ (vs:List Value) (o:Nat) (w:World),Plain w b->Plain (w.setCells g o vs) b
 | [],_,_,h=>h
 | v :: r,o,_,h=>Plain.setCells g r (o+1) _ (h.setCell _ v)
theorem Plain.frozen {w:World} {b:Nat} (h:Plain w b) (j:Nat):w.frozen? ⟨b,j,none⟩=false:=by
 obtain ⟨cur,h⟩:=h
 simp [World.frozen?,h]

def InWin (v:Value) (k j:Nat):Prop:=∃ o n c,v=.slice (some ⟨k,o,none⟩) n c∧o<=j∧j<o+c * 2
structure WinAt (w:World) (b o c:Nat) (zs:KV):Prop where
 fit:zs.length<=c
 cap:c<=maxLen
 pos:0<c
 row:w.rangeAt b o (itc zs)
 there:∀ j,j<c * 2->(w.cell? ⟨b,o+j,none⟩).isSome=true
 plain:Plain w b
def NodeAt (w:World) (v:Value) (zs:KV):Prop:=(v=.slice none 0 0∧zs=[])∨∃ b o c,v=.slice (some ⟨b,o,none⟩) zs.length c∧WinAt w b o c zs
theorem WinAt.node {w:World} {b o c:Nat} {zs:KV} (h:WinAt w b o c zs):NodeAt w (.slice (some ⟨b,o,none⟩) zs.length c) zs:=.inr ⟨b,o,c,rfl,h⟩
theorem WinAt.cells {w:World} {b o c:Nat} {zs:KV} (h:WinAt w b o c zs) (j:Nat) (hj:j<zs.length) :
  w.cell? ⟨b,o+j * 2,none⟩=some (.string (zs.key j))∧w.cell? ⟨b,o+j * 2+1,none⟩=some (.int .i64 (zs.num j)):=by
 have e:zs.getD j (⟨#[]⟩,0)=zs[j]:=by rw [List.getD_eq_getElem?_getD,List.getElem?_eq_getElem hj]; rfl
 have f:=fun i (hi:i<2)=>flat_at (f:=it2) (n:=2) (fun _=>rfl) zs j i hj hi
 have a0:=h.row (j * 2+0) _ (by unfold itc; rw [f 0 (by omega)]; rfl)
 have a1:=h.row (j * 2+1) _ (by unfold itc; rw [f 1 (by omega)]; rfl)
 unfold KV.key KV.num
 rw [e]
 exact ⟨a0,by rw [Nat.add_assoc]; exact a1⟩

structure Turn (F:Nat->Nat->Prop) (w w':World):Prop where
 os:w'.os=w.os
 tape:w'.tape=w.tape
 output:w'.output=w.output
 size:w.heap.size<=w'.heap.size
 block:∀ k,k<w.heap.size->(∀ j,¬ F k j)->w'.heap[k]?=w.heap[k]?
 cell:∀ k j,k<w.heap.size->¬ F k j->w'.cell? ⟨k,j,none⟩=w.cell? ⟨k,j,none⟩
 there:∀ k j,k<w.heap.size->(w.cell? ⟨k,j,none⟩).isSome=true->(w'.cell? ⟨k,j,none⟩).isSome=true
 plain:∀ k,Plain w k->Plain w' k
section
variable {F G:Nat->Nat->Prop} {a b c w w':World}
theorem Turn.refl (F:Nat->Nat->Prop) (w:World):Turn F w w:=⟨rfl,rfl,rfl,Nat.le_refl _,fun _ _ _=>rfl,fun _ _ _ _=>rfl,fun _ _ _ h=>h,fun _ h=>h⟩
theorem Turn.of_below (h:Below w.heap.size w w'):Turn F w w' :=
 ⟨h.os,h.tape,h.output,h.size,fun k hk _=>h.block k hk,fun k j hk _=>World.cell?_of_block (a:=⟨k,j,none⟩) (h.block k hk),fun k j hk q=>by
  rw [World.cell?_of_block (a:=⟨k,j,none⟩) (h.block k hk)]; exact q,fun k hk=>by obtain ⟨cur,e⟩:=hk; exact ⟨cur,(h.block k (Plain.lt ⟨cur,e⟩)).trans e⟩⟩
theorem Turn.trans (h:Turn F a b) (k:Turn G b c) (hg:∀ i j,G i j->F i j∨a.heap.size<=i):Turn F a c :=
 ⟨k.os.trans h.os,k.tape.trans h.tape,k.output.trans h.output,Nat.le_trans h.size k.size,fun i hi hn=>(k.block i (Nat.lt_of_lt_of_le hi h.size) (fun j e=>by
   rcases hg i j e with q | q
   ·exact hn j q
   ·omega)).trans (h.block i hi hn),fun i j hi hn=>(k.cell i j (Nat.lt_of_lt_of_le hi h.size) (fun e=>by
   rcases hg i j e with q | q
   ·exact hn q
   ·omega)).trans (h.cell i j hi hn),fun i j hi q=>k.there i j (Nat.lt_of_lt_of_le hi h.size) (h.there i j hi q),fun i q=>k.plain i (h.plain i q)⟩
theorem Turn.mono (h:Turn F w w') (hg:∀ i j,F i j->G i j):Turn G w w' :=
 ⟨h.os,h.tape,h.output,h.size,fun k hk hn=>h.block k hk fun j e=>hn j (hg k j e),fun k j hk hn=>h.cell k j hk fun e=>hn (hg k j e),h.there,h.plain⟩
theorem Turn.then (h:Turn F a b) (k:Turn F b c):Turn F a c:=h.trans k fun _ _ e=>.inl e
theorem Turn.chg (h:Turn F w w') {E:Nat->Prop} (hE:∀ k j,F k j->E k):Chg E w w':=⟨h.os,h.tape,h.output,h.size,fun k hk hn=>h.block k hk fun j e=>hn (hE k j e)⟩
theorem Turn.setCells (w:World) (g o:Nat) (vs:List Value):Turn (fun k j=>k=g∧o<=j∧j<o+vs.length) w (w.setCells g o vs):=by
 have fr:=World.keptBut_setCells g (may:=fun _=>True) vs o w (fun _ _=>trivial)
 have key:∀ (vs:List Value) (o:Nat) (w:World),(w.setCells g o vs).os=w.os∧(w.setCells g o vs).tape=w.tape∧(w.setCells g o vs).output=w.output∧(w.setCells g o vs).heap.size=w.heap.size∧∀ k,k≠g->(w.setCells g o vs).heap[k]?=w.heap[k]?:=by
  intro vs
  induction vs with
  | nil=>exact fun o w=>⟨rfl,rfl,rfl,rfl,fun _ _=>rfl⟩
  | cons v r ih =>
   intro o w
   obtain ⟨h1,h2,h3,h4,h5⟩:=ih (o+1) (w.setCell ⟨g,o,none⟩ v)
   exact ⟨h1,h2,h3,by rw [World.setCells,h4]; simp [World.setCell],fun k hk=>(h5 k hk).trans (Below.heap_setCell _ _ _ _ hk)⟩
 obtain ⟨h1,h2,h3,h4,h5⟩:=key vs o w
 have kc:∀ k j,¬ (k=g∧o<=j∧j<o+vs.length)->(w.setCells g o vs).cell? ⟨k,j,none⟩=w.cell? ⟨k,j,none⟩:=fun k j hn =>
  World.cell?_setCells_out g vs o w ⟨k,j,none⟩ (fun e _=>by
   simp only at e ⊢
   by_cases q:j<o
   ·exact .inl q
   ·exact .inr (Nat.le_of_not_lt fun q2=>hn ⟨e,by omega,q2⟩))
 refine ⟨h1,h2,h3,by omega,fun k hk hn=>?_,fun k j _ hn=>kc k j hn,fun k j _ q=>World.isSome_setCells g vs o w _ q,fun k hk=>Plain.setCells g vs o w hk⟩
 by_cases e:k=g
 ·subst e
  cases vs with
  | nil=>rfl
  | cons v r=>exact absurd ⟨rfl,Nat.le_refl o,by simp⟩ (hn o)
 ·exact h5 k e
end
theorem WinAt.turn {F:Nat->Nat->Prop} {w w':World} {b o c:Nat} {zs:KV} (h:WinAt w b o c zs) (t:Turn F w w') (hn:∀ j,o<=j->j<o+c * 2->¬ F b j):WinAt w' b o c zs:=by
 have lt:=h.plain.lt
 have hf:=h.fit
 refine ⟨h.fit,h.cap,h.pos,fun j v hj=>?_,fun j hj=>t.there _ _ lt (h.there j hj),t.plain _ h.plain⟩
 have hj2:j<zs.length * 2:=by rw [<-itc_len]; exact (List.getElem?_eq_some_iff.1 hj).1
 rw [t.cell b (o+j) lt (hn _ (by omega) (by omega))]
 exact h.row j v hj
theorem NodeAt.turn {F:Nat->Nat->Prop} {w w':World} {v:Value} {zs:KV} (h:NodeAt w v zs) (t:Turn F w w') (hn:∀ k j,InWin v k j->¬ F k j):NodeAt w' v zs:=by
 rcases h with ⟨rfl,rfl⟩ | ⟨b,o,c,rfl,h⟩
 ·exact .inl ⟨rfl,rfl⟩
 ·exact .inr ⟨b,o,c,rfl,h.turn t fun j h1 h2=>hn b j ⟨o,_,c,rfl,h1,h2⟩⟩
theorem InWin.lt {w:World} {v:Value} {zs:KV} {k j:Nat} (h:NodeAt w v zs) (hi:InWin v k j):k<w.heap.size:=by
 obtain ⟨o,n,c,rfl,_⟩:=hi
 rcases h with ⟨e,_⟩ | ⟨b,o',c',e,h⟩
 ·cases e
 ·injection e with e _ _
  injection e with e
  injection e with e _ _
  subst e
  exact h.plain.lt

section
variable {P:Program} {w:World}
theorem run_app_room (t u ty e:TypeId) (i:TypeInfo) (ht:P.underlying t=some (.slice e)) (hu:P.underlying u=some (.slice e)) (hi:P.info? e=some i)
  (b off sLen sCap:Nat) (a:Addr) (m c:Nat) (news:List Value) (hl:news.length=m * i.size) (hnews:∀ j u,news[j]?=some u->w.cell? (a.add j)=some u) (h1:∀ u ∈ news,u.oneCell'=true)
  (hroom:sLen+m<=sCap) (hc:∀ j,j<news.length->(w.cell? ⟨b,off+sLen * i.size+j,none⟩).isSome=true) (hf:∀ j,j<news.length->w.frozen? ⟨b,off+sLen * i.size+j,none⟩=false) :
  (Builtin.append_ #[t,u] ty #[.slice (some ⟨b,off,none⟩) sLen sCap,.slice (some a) m c]).run P w=.ok (.slice (some ⟨b,off,none⟩) (sLen+m) sCap) (w.setCells b (off+sLen * i.size) news):=by
 have hfc:=run_firstCells_some (P:=P) w i.size m a m c news hl hnews
 have hst:=run_storeCells_cells (P:=P) b (off+sLen * i.size) news 0 w (by simpa using hc) (by simpa using hf) h1
 simp only [Nat.add_zero] at hst
 simp [Builtin.append_,run_underlying ht,run_underlying hu,sizeOf,typeInfo,hi,Builtin.lenOf,hroom,hfc,Addr.add_lit,hst]
theorem run_app_grow (t u ty e:TypeId) (i:TypeInfo) (z:Value) (ht:P.underlying t=some (.slice e)) (hu:P.underlying u=some (.slice e)) (hi:P.info? e=some i) (hz:i.zero=some z)
  (b:Addr) (sLen sCap:Nat) (olds:List Value) (hlo:olds.length=sLen * i.size) (holds:∀ j v,olds[j]?=some v->w.cell? (b.add j)=some v)
  (a:Addr) (n c:Nat) (news:List Value) (hl:news.length=n * i.size) (hnews:∀ j v,news[j]?=some v->w.cell? (a.add j)=some v)
  (hg:sCap<sLen+n) (h63:((sLen+n:Nat):Int)<=9223372036854775807) (hfit:Builtin.nextslicecap (sLen+n) sCap * i.bytes<=281474976710656) :
  (Builtin.append_ #[t,u] ty #[.slice (some b) sLen sCap,.slice (some a) n c]).run P w =
   .ok (.slice (some ⟨w.heap.size,0,none⟩) (sLen+n) (grownCap w (sLen+n) sCap e))
    (w.drew.alloc (.cells (olds.toArray++news.toArray++Builtin.zeroCells z.cells (grownCap w (sLen+n) sCap e-(sLen+n))) e)):=by
 have hn:¬ (sLen+n<=sCap):=by omega
 have h63':¬ (9223372036854775807<((sLen:Int)+(n:Int))):=by omega
 have h48':¬ (281474976710656<Builtin.nextslicecap (sLen+n) sCap * i.bytes):=by omega
 have hf:=run_firstCells_some (P:=P) w.drew i.size n a n c news hl (by simpa using hnews)
 have hfo:=run_firstCells_some (P:=P) w.drew i.size sLen b sLen sCap olds hlo (by simpa using holds)
 simp [Builtin.append_,run_underlying ht,run_underlying hu,sizeOf,typeInfo,zeroValue,hi,hz,Builtin.lenOf,hn,h63',h48',Question.forced,hf,hfo,newRow,grownCap]
 congr 2
 apply Array.ext'
 simp [List.append_assoc]
theorem run_copy2 (w:World) (dT sT ty elem:TypeId) (b o dLen dCap:Nat) (a:Addr) (sLen sCap:Nat) (cs:List Value) (n:Nat)
  (hu:P.underlying dT=some (.slice elem)) (hs:(P.info? elem).map (·.size)=some 2) (hn:n=Nat.min sLen dLen) (hl:cs.length=n * 2)
  (hsrc:∀ j v,cs[j]?=some v->w.cell? (a.add j)=some v) (hc:∀ j,j<cs.length->(w.cell? ⟨b,o+j,none⟩).isSome=true) (hf:∀ j,j<cs.length->w.frozen? ⟨b,o+j,none⟩=false) (h1:∀ v ∈ cs,v.oneCell'=true) :
  (Builtin.copy_ #[dT,sT] ty #[.slice (some ⟨b,o,none⟩) dLen dCap,.slice (some a) sLen sCap]).run P w=.ok (goInt n) (w.setCells b o cs):=by
 have hlc:=run_loadCells_list (P:=P) w a cs hsrc
 have hst:=run_storeCells_cells (P:=P) b o cs 0 w (by simpa using hc) (by simpa using hf) h1
 rw [hl] at hlc
 cases hq:P.info? elem with
 | none=>simp [hq] at hs
 | some i =>
  have hi:i.size=2:=by simpa [hq] using hs
  simp [Builtin.copy_,run_underlying hu,Builtin.lenOf,Builtin.firstCells,sizeOf,typeInfo,hq,hi,<-hn,hlc,hst]
end
theorem add_mid {w:World} {b o:Nat} {cs:List Value} (h:w.rangeAt b o cs):∀ j v,cs[j]?=some v->w.cell? ((⟨b,o,none⟩:Addr).add j)=some v:=fun j v hj=>by rw [Addr.add_mid]; exact h j v hj

def Moved (w:World) (v:Value) (zs:KV) (v':Value) (w':World):Prop:=NodeAt w' v' zs∧Turn (InWin v) w w'∧(∀ k j,InWin v' k j->InWin v k j∨w.heap.size<=k)∧v'≠.slice none 0 0

theorem grown_row {w:World} {x z:List Value} {t:TypeId}:(w.drew.alloc (.cells (x++z).toArray t)).rangeAt w.heap.size 0 x:=fun j v hj=>by
 have hr:(w.drew.alloc (.cells (x++z).toArray t)).heap[w.heap.size]?=some (.cells (x++z).toArray t (0,0)):=heap_alloc_new w.drew _
 rw [cell_of_row _ _ _ _ _ _ hr,List.getElem?_toArray,Nat.zero_add,List.getElem?_append_left (List.getElem?_eq_some_iff.1 hj).1]; exact hj
theorem setCells_at {w:World} {b o:Nat} {vs:List Value} (h:∀ j,j<vs.length->(w.cell? ⟨b,o+j,none⟩).isSome=true):(w.setCells b o vs).rangeAt b o vs:=fun j v hj=>by
 have hl:=(List.getElem?_eq_some_iff.1 hj).1
 rw [World.cell?_setCells_in b vs o w h j hl,<-hj,List.getElem?_eq_getElem hl]

theorem run_app (w:World) (t u ty:TypeId) (ht:Tryz.prog.underlying t=some (.slice 221)) (hu:Tryz.prog.underlying u=some (.slice 221))
  (b o c:Nat) (zs ys:KV) (h:WinAt w b o c zs) (g p cx:Nat) (hy:w.rangeAt g p (itc ys)) (hl:zs.length+ys.length<=1000000) :
  ∃ v' w',(Builtin.append_ #[t,u] ty #[.slice (some ⟨b,o,none⟩) zs.length c,.slice (some ⟨g,p,none⟩) ys.length cx]).run Tryz.prog w=.ok v' w'∧Moved w (.slice (some ⟨b,o,none⟩) zs.length c) (zs++ys) v' w' ∧
   (zs.length+ys.length<=c->v'=.slice (some ⟨b,o,none⟩) (zs.length+ys.length) c∧w'=w.setCells b (o+zs.length * 2) (itc ys)):=by
 obtain ⟨i0,hi,hz0,hz1,hz2⟩:=info_parts infoIt
 have ly:=itc_len ys
 by_cases hr:zs.length+ys.length<=c
 ·have hin:∀ j,j<(itc ys).length->(w.cell? ⟨b,o+zs.length * 2+j,none⟩).isSome=true:=fun j hj=>by
   have:=h.there (zs.length * 2+j) (by omega)
   rwa [<-Nat.add_assoc] at this
  have hrun:=run_app_room (P:=Tryz.prog) (w:=w) t u ty _ i0 ht hu hi b o zs.length c ⟨g,p,none⟩ ys.length cx (itc ys) (by rw [hz1]; exact ly) (add_mid hy) (itc_one ys) hr (by rw [hz1]; exact hin) (by rw [hz1]; exact fun j _=>h.plain.frozen _)
  rw [hz1] at hrun
  refine ⟨_,_,hrun,⟨?_,(Turn.setCells w b (o+zs.length * 2) (itc ys)).mono ?_,fun k j hw=>.inl ?_,by simp⟩,fun _=>⟨rfl,rfl⟩⟩
  ·have e:zs.length+ys.length=(zs++ys).length:=by simp
   rw [e]
   refine WinAt.node ⟨by rw [<-e]; exact hr,h.cap,h.pos,?_,fun j hj=>World.isSome_setCells _ _ _ _ _ (h.there j hj),Plain.setCells _ _ _ _ h.plain⟩
   rw [itc_append,rangeAt_append,itc_len]
   refine ⟨World.rangeAt_setCells_apart h.row _ _ _ (.inr (.inl (by rw [itc_len]; omega))),setCells_at hin⟩
  ·rintro k j ⟨rfl,h1,h2⟩
   exact ⟨o,_,c,rfl,by omega,by omega⟩
  ·obtain ⟨o',n',c',e,h1,h2⟩:=hw
   injection e with e1 e2 e3
   injection e1 with e1
   injection e1 with e1 e4 _
   subst e1; subst e4; subst e3
   exact ⟨o,_,c,rfl,h1,h2⟩
 ·obtain ⟨G,hG⟩:=nmq (grownCap w (zs.length+ys.length) c 221)
  have hge:zs.length+ys.length<=G:=by rw [hG]; exact grownCap_ge _ _ _ _
  have hle:G<=maxLen:=by rw [hG]; exact grownCap_le_maxLen _ _ _ _ (by unfold maxLen; omega)
  have hrun:=run_app_grow (P:=Tryz.prog) (w:=w) t u ty _ i0 _ ht hu hi hz0 ⟨b,o,none⟩ zs.length c (itc zs) (by rw [hz1]; exact itc_len zs) (add_mid h.row) ⟨g,p,none⟩ ys.length cx (itc ys) (by rw [hz1]; exact ly) (add_mid hy) (by omega) (by omega)
   (growslice_fits (by omega) (by rw [hz2]; omega))
  rw [<-hG] at hrun
  obtain ⟨Z,hZ⟩:∃ Z:List Value,Z=(Builtin.zeroCells (Value.agg #[Value.string ⟨#[]⟩,Value.int .i64 0]).cells (G-(zs.length+ys.length))).toList:=⟨_,rfl⟩
  have hZl:Z.length=(G-(zs.length+ys.length)) * 2:=by rw [hZ,Array.length_toList,size_zeroCells]; rfl
  have ew:(itc zs).toArray++(itc ys).toArray++Builtin.zeroCells (Value.agg #[Value.string ⟨#[]⟩,Value.int .i64 0]).cells (G-(zs.length+ys.length))=(itc (zs++ys)++Z).toArray:=by
   rw [hZ,itc_append]
   apply Array.ext'
   simp
  rw [ew] at hrun
  have hb:Below w.heap.size w (w.drew.alloc (.cells (itc (zs++ys)++Z).toArray 221)):=(Below.refl _ _).drew.alloc (Nat.le_refl _) _
  refine ⟨_,_,hrun,⟨?_,Turn.of_below hb,fun k j hw=>.inr ?_,by simp⟩,fun q=>absurd q hr⟩
  ·have e:zs.length+ys.length=(zs++ys).length:=by simp
   rw [e]
   have hr:(w.drew.alloc (.cells (itc (zs++ys)++Z).toArray 221)).heap[w.heap.size]?=some (.cells (itc (zs++ys)++Z).toArray 221 (0,0)):=heap_alloc_new w.drew _
   refine WinAt.node ⟨by rw [<-e]; exact hge,hle,by omega,grown_row,fun j hj=>?_,⟨_,hr⟩⟩
   rw [cell_of_row _ _ _ _ _ _ hr,List.getElem?_toArray,Nat.zero_add,List.getElem?_eq_getElem (by rw [List.length_append,itc_len,hZl,<-e]; omega)]
   rfl
  ·obtain ⟨o',n',c',e,_⟩:=hw
   injection e with e1 e2 e3
   injection e1 with e1
   injection e1 with e1 e4 _
   omega

end Go.Proofs.YtoljhoabbaigdaaGreat

namespace Go.Proofs.YtoljhoabbaigdaaGreat
open Go.RowKit

theorem OwnJ.keepB {w w':World} {B:Nat} {v:Value} {zs:List Int} (h:OwnJ w B v zs) (hb:∀ k,v.ownBlock=some k->w'.heap[k]?=w.heap[k]?):OwnJ w' B v zs:=by
 rcases h with ⟨h1,h2⟩
 refine ⟨h1,?_⟩
 rcases h2 with ⟨rfl,h0⟩ | ⟨g,cap,cur,rfl,hB,hg,r⟩
 ·exact .inl ⟨rfl,h0⟩
 ·exact .inr ⟨g,cap,cur,rfl,hB,(hb g rfl).trans hg,r⟩
theorem OwnS.keepV {w w':World} {B:Nat} {v:Value} {zs:List ByteArray} (h:OwnS w B v zs) (hb:∀ k,v.ownBlock=some k->w'.heap[k]?=w.heap[k]?):OwnS w' B v zs:=by
 rcases h with ⟨h1,h2⟩
 refine ⟨h1,?_⟩
 rcases h2 with ⟨rfl,h0⟩ | ⟨g,cap,cur,rfl,hB,hg,r⟩
 ·exact .inl ⟨rfl,h0⟩
 ·exact .inr ⟨g,cap,cur,rfl,hB,(hb g rfl).trans hg,r⟩
end Go.Proofs.YtoljhoabbaigdaaGreat

namespace Go.Proofs.YtoljhoabbaigdaaGreat
open Go.RowKit

theorem SlS.take {w:World} {A:Option Addr} {zs:List ByteArray} (h:SlS w A zs) (i:Nat):SlS w A (zs.take i):=fun hn=>by
 rw [List.length_take] at hn
 obtain ⟨b,o,e,hlt,hc⟩:=h (by omega)
 refine ⟨b,o,e,hlt,fun j hj=>?_⟩
 rw [List.length_take] at hj
 rw [hc j (by omega),List.getD_eq_getElem?_getD,List.getD_eq_getElem?_getD,List.getElem?_take,if_pos (by omega)]
theorem SlS.drop {w:World} {g o:Nat} {zs:List ByteArray} (h:SlS w (some ⟨g,o,none⟩) zs) (i:Nat):SlS w (some ⟨g,o+i,none⟩) (zs.drop i):=fun hn=>by
 rw [List.length_drop] at hn
 obtain ⟨b,o',e,hlt,hc⟩:=h (by omega)
 injection e with e
 injection e with e1 e2 _
 subst e1; subst e2
 refine ⟨g,o+i,rfl,hlt,fun j hj=>?_⟩
 rw [List.length_drop] at hj
 rw [Nat.add_assoc,hc (i+j) (by omega),List.getD_eq_getElem?_getD,List.getD_eq_getElem?_getD,List.getElem?_drop]
theorem SlJ.take {w:World} {A:Option Addr} {zs:List Int} (h:SlJ w A zs) (i:Nat):SlJ w A (zs.take i):=fun hn=>by
 rw [List.length_take] at hn
 obtain ⟨b,o,e,hlt,hc⟩:=h (by omega)
 refine ⟨b,o,e,hlt,fun j hj=>?_⟩
 rw [List.length_take] at hj
 rw [hc j (by omega),List.getD_eq_getElem?_getD,List.getD_eq_getElem?_getD,List.getElem?_take,if_pos (by omega)]
theorem SlJ.drop {w:World} {g o:Nat} {zs:List Int} (h:SlJ w (some ⟨g,o,none⟩) zs) (i:Nat):SlJ w (some ⟨g,o+i,none⟩) (zs.drop i):=fun hn=>by
 rw [List.length_drop] at hn
 obtain ⟨b,o',e,hlt,hc⟩:=h (by omega)
 injection e with e
 injection e with e1 e2 _
 subst e1; subst e2
 refine ⟨g,o+i,rfl,hlt,fun j hj=>?_⟩
 rw [List.length_drop] at hj
 rw [Nat.add_assoc,hc (i+j) (by omega),List.getD_eq_getElem?_getD,List.getD_eq_getElem?_getD,List.getElem?_drop]
theorem SlS.rest {w:World} {g i c:Nat} {zs:List ByteArray} (h:SlS w (some ⟨g,0,none⟩) zs) (hc:zs.length<=c):SlS w (if c=i then some ⟨g,0,none⟩ else some ⟨g,i,none⟩) (zs.drop i):=by
 split
 ·intro hn
  rw [List.length_drop] at hn
  omega
 ·have:=h.drop i
  rwa [Nat.zero_add] at this
theorem SlJ.rest {w:World} {g i c:Nat} {zs:List Int} (h:SlJ w (some ⟨g,0,none⟩) zs) (hc:zs.length<=c):SlJ w (if c=i then some ⟨g,0,none⟩ else some ⟨g,i,none⟩) (zs.drop i):=by
 split
 ·intro hn
  rw [List.length_drop] at hn
  omega
 ·have:=h.drop i
  rwa [Nat.zero_add] at this
theorem SlJ.alloc {w:World} {A:Option Addr} {zs:List Int} (h:SlJ w A zs) (o:Obj):SlJ (w.alloc o) A zs:=h.below ((Below.refl _ _).alloc (Nat.le_refl _) o)
theorem SlJ.other {w:World} {g o:Nat} {zs:List Int} (h:SlJ w (some ⟨g,o,none⟩) zs) {p:Addr} (hp:g≠p.block) (v:Value):SlJ (w.setCell p v) (some ⟨g,o,none⟩) zs:=fun hn=>by
 obtain ⟨b,o',e,hlt,hc⟩:=h hn
 injection e with e
 injection e with e1 e2 _
 subst e1; subst e2
 exact ⟨g,o,rfl,by rw [World.size_setCell]; exact hlt,fun j hj=>(World.cell?_of_block (w:=w) (a:=⟨g,o+j,none⟩) (Below.heap_setCell _ _ _ _ hp)).trans (hc j hj)⟩
section
variable {ops:Array Oper} {rest:List Oper} {o:Oper} {a:Act} {w:World} {Q:Exit->Act->World->Prop}
end
theorem OwnS.base {w:World} {B:Nat} {v:Value} {zs:List ByteArray} (h:OwnS w B v zs):OwnS w 0 v zs:=h.mono (Nat.zero_le _)
theorem OwnJ.base {w:World} {B:Nat} {v:Value} {zs:List Int} (h:OwnJ w B v zs):OwnJ w 0 v zs:=by
 rcases h with ⟨h1,h2⟩
 refine ⟨h1,?_⟩
 rcases h2 with q | ⟨g,cap,cur,e,hB,r⟩
 ·exact .inl q
 ·exact .inr ⟨g,cap,cur,e,Nat.zero_le _,r⟩
theorem OwnJ.ltB {w:World} {B:Nat} {v:Value} {zs:List Int} (h:OwnJ w B v zs):∀ k,v.ownBlock=some k->B<=k∧k<w.heap.size:=World.ownsRow.lt h

end Go.Proofs.YtoljhoabbaigdaaGreat

namespace Go.Proofs.YtoljhoabbaigdaaGreat
open Go.RowKit

theorem OwnS.setCell {B:Nat} {w:World} {v:Value} {zs:List ByteArray} (h:OwnS w B v zs) {p:Addr} (hp:p.block<B) (u:Value):OwnS (w.setCell p u) B v zs :=
 h.keepV fun k e=>Below.heap_setCell _ _ _ _ (by have:=World.ownsRow.lt h k e; omega)
theorem OwnJ.setCell {B:Nat} {w:World} {v:Value} {zs:List Int} (h:OwnJ w B v zs) {p:Addr} (hp:p.block<B) (u:Value):OwnJ (w.setCell p u) B v zs :=
 h.keepB fun k e=>Below.heap_setCell _ _ _ _ (by have:=World.ownsRow.lt h k e; omega)
end Go.Proofs.YtoljhoabbaigdaaGreat

namespace Go.Proofs.YtoljhoabbaigdaaGreat
open Go.RowKit

structure Tab where
 nds:List KV
 free:List Nat
 root:Nat
 depth:Nat
 count:Nat
def Tab.nd (s:Tab) (p:Nat):KV:=s.nds.getD p []
def nilv:Value:=.slice none 0 0
def frees (l:List Nat):List Int:=l.map fun (n:Nat)=>(n:Int)
def tnv (vs:List Value) (i:Nat):Value:=vs.getD i nilv

structure TabV (w:World) (T:Nat) (E:Nat->Prop) (s:Tab) (rv fv:Value) (vs:List Value):Prop where
 row:RowAt w T [rv,fv,.int .i64 s.root,.int .i64 s.depth,.int .i64 s.count] 224
 nodes:w.ownsRow 0 236 1 rv vs.length vs
 free:OwnJ w 0 fv (frees s.free)
 len:vs.length=s.nds.length
 node:∀ i,i<vs.length->NodeAt w (tnv vs i) (s.nd i)
 apart:∀ i j k q,i<vs.length->j<vs.length->InWin (tnv vs i) k q->InWin (tnv vs j) k q->i=j
 eT:E T
 eN:∀ k,rv.ownBlock=some k->E k∧k≠T
 eF:∀ k,fv.ownBlock=some k->E k∧k≠T∧rv.ownBlock≠some k
 eW:∀ i k q,i<vs.length->InWin (tnv vs i) k q->E k∧k≠T∧rv.ownBlock≠some k∧fv.ownBlock≠some k
 lt:∀ k,E k->k<w.heap.size
def TabG (w:World) (T:Nat) (E:Nat->Prop) (s:Tab):Prop:=∃ rv fv vs,TabV w T E s rv fv vs
def LeftP (w:World) (T:Nat) (E:Nat->Prop) (s:Tab) (w':World):Prop:=∃ E':Nat->Prop,TabG w' T E' s∧(∀ k,E' k->E k∨w.heap.size<=k)∧Chg E w w'

theorem own_keep {w w':World} {e:TypeId} {m:Nat} {v:Value} {n:Nat} {xs:List Value} (h:w.ownsRow 0 e m v n xs) (hb:∀ k,v.ownBlock=some k->w'.heap[k]?=w.heap[k]?):w'.ownsRow 0 e m v n xs:=by
 rcases h with ⟨h1,h2⟩
 refine ⟨h1,?_⟩
 rcases h2 with ⟨rfl,h0⟩ | ⟨g,cap,cur,rfl,hB,hg,r⟩
 ·exact .inl ⟨rfl,h0⟩
 ·exact .inr ⟨g,cap,cur,rfl,hB,(hb g rfl).trans hg,r⟩
theorem NodeAt.keep {w w':World} {v:Value} {zs:KV} (h:NodeAt w v zs) (hb:∀ k q,InWin v k q->w'.heap[k]?=w.heap[k]?):NodeAt w' v zs:=by
 rcases h with ⟨rfl,rfl⟩ | ⟨b,o,c,rfl,h⟩
 ·exact .inl ⟨rfl,rfl⟩
 ·have e:=hb b o ⟨o,_,c,rfl,Nat.le_refl _,by have:=h.pos; omega⟩
  exact .inr ⟨b,o,c,rfl,⟨h.fit,h.cap,h.pos,fun j v hj=>(World.cell?_of_block (a:=⟨b,o+j,none⟩) e).trans (h.row j v hj),fun j hj=>by
   rw [World.cell?_of_block (a:=⟨b,o+j,none⟩) e]; exact h.there j hj,by obtain ⟨cur,q⟩:=h.plain; exact ⟨cur,e.trans q⟩⟩⟩
section
variable {w w':World} {T:Nat} {E:Nat->Prop} {s:Tab} {rv fv:Value} {vs:List Value}
theorem TabV.keep (h:TabV w T E s rv fv vs) (hk:∀ k,E k->w'.heap[k]?=w.heap[k]?) (hs:w.heap.size<=w'.heap.size):TabV w' T E s rv fv vs :=
 ⟨(hk T h.eT).trans h.row,own_keep h.nodes fun k e=>hk k (h.eN k e).1,own_keep h.free fun k e=>hk k (h.eF k e).1,h.len,fun i hi=>(h.node i hi).keep fun k q e=>hk k (h.eW i k q hi e).1,h.apart,h.eT,h.eN,h.eF,h.eW,fun k e=>Nat.lt_of_lt_of_le (h.lt k e) hs⟩
theorem TabG.keep (h:TabG w T E s) (hk:∀ k,E k->w'.heap[k]?=w.heap[k]?) (hs:w.heap.size<=w'.heap.size):TabG w' T E s:=by
 obtain ⟨rv,fv,vs,h⟩:=h
 exact ⟨rv,fv,vs,h.keep hk hs⟩
theorem TabG.lt (h:TabG w T E s):∀ k,E k->k<w.heap.size:=by obtain ⟨_,_,_,h⟩:=h; exact h.lt
theorem TabG.below (h:TabG w T E s) (hb:Below w.heap.size w w'):TabG w' T E s:=h.keep (fun k e=>hb.block k (h.lt k e)) hb.size
theorem TabV.below (h:TabV w T E s rv fv vs) (hb:Below w.heap.size w w'):TabV w' T E s rv fv vs:=h.keep (fun k e=>hb.block k (h.lt k e)) hb.size
theorem TabG.eT (h:TabG w T E s):E T:=by obtain ⟨_,_,_,h⟩:=h; exact h.eT
theorem LeftP.same (h:TabG w T E s) (hb:Below w.heap.size w w'):LeftP w T E s w':=⟨E,h.below hb,fun _ e=>.inl e,Chg.of_below hb⟩
theorem LeftP.then {s':Tab} {w2:World} {E1:Nat->Prop} (c:Chg E w w') (a:∀ k,E1 k->E k∨w.heap.size<=k) (k:LeftP w' T E1 s' w2):LeftP w T E s' w2:=by
 obtain ⟨E2,h2,a2,c2⟩:=k
 exact ⟨E2,h2,fun i e=>by
  rcases a2 i e with q | q
  ·exact a i q
  ·exact .inr (Nat.le_trans c.size q),c.trans c2 a⟩
theorem LeftP.trans {s':Tab} {w2:World} (h:LeftP w T E s w') (k:∀ E1,TabG w' T E1 s->LeftP w' T E1 s' w2):LeftP w T E s' w2:=by
 obtain ⟨E1,h1,a1,c1⟩:=h
 exact LeftP.then c1 a1 (k E1 h1)

theorem TabV.rowAt (h:TabV w T E s rv fv vs) (hp:0<vs.length):∃ g c,rv=.slice (some ⟨g,0,none⟩) vs.length c∧E g∧g≠T∧∀ i,i<vs.length->w.cell? ⟨g,i,none⟩=some (tnv vs i)∧w.frozen? ⟨g,i,none⟩=false:=by
 have hn:=h.nodes
 rcases hn.2 with ⟨_,h0⟩ | ⟨g,cap,cur,e,_,hg,_,_,_,ht⟩
 ·omega
 ·have:=h.eN g (by rw [e]; rfl)
  refine ⟨g,cap,e,this.1,this.2,fun i hi=>?_⟩
  rw [e] at hn
  refine ⟨?_,hn.frozenAt i⟩
  rw [hn.cellAt i (by omega),List.getElem?_eq_getElem hi]
  unfold tnv
  rw [List.getD_eq_getElem?_getD,List.getElem?_eq_getElem hi]; rfl
theorem nv_set {vs:List Value} {i j:Nat} {v:Value} (hi:i<vs.length):tnv (vs.set i v) j=if j=i then v else tnv vs j:=by
 unfold tnv
 rw [List.getD_eq_getElem?_getD,List.getD_eq_getElem?_getD,List.getElem?_set]
 by_cases e:j=i
 ·subst e; rw [if_pos rfl,if_pos rfl,if_pos hi]; rfl
 ·rw [if_neg (Ne.symm e),if_neg e]
theorem Tab.nd_set {l:List KV} {i j:Nat} {v:KV} (hi:i<l.length):(l.set i v).getD j []=if j=i then v else l.getD j []:=by
 rw [List.getD_eq_getElem?_getD,List.getD_eq_getElem?_getD,List.getElem?_set]
 by_cases e:j=i
 ·subst e; rw [if_pos rfl,if_pos rfl,if_pos hi]; rfl
 ·rw [if_neg (Ne.symm e),if_neg e]
def Tab.put (s:Tab) (i:Nat) (zs:KV):Tab:={ s with nds:=s.nds.set i zs }
theorem Tab.put_nd {s:Tab} {i:Nat} {zs:KV} (hi:i<s.nds.length) (j:Nat):(s.put i zs).nd j=if j=i then zs else s.nd j:=Tab.nd_set hi
theorem NodeAt.own {v:Value} {zs:KV} (h:NodeAt w v zs) {k:Nat} (e:v.ownBlock=some k):∃ q,InWin v k q:=by
 rcases h with ⟨rfl,_⟩ | ⟨b,o,c,rfl,h⟩
 ·cases e
 ·injection e with e
  subst e
  exact ⟨o,o,_,c,rfl,Nat.le_refl _,by have:=h.pos; omega⟩

theorem TabV.moved {E':Nat->Prop} {i g c:Nat} {v':Value} {zs:KV} (h:TabV w T E s rv fv vs) (hi:i<vs.length) (hr:rv=.slice (some ⟨g,0,none⟩) vs.length c)
  (hm:NodeAt w' v' zs) (ht:Turn (InWin (tnv vs i)) w w') (hw:∀ k j,InWin v' k j->InWin (tnv vs i) k j∨w.heap.size<=k)
  (hE:∀ k,E k->E' k) (hE2:∀ k,w.heap.size<=k->k<w'.heap.size->E' k) (hlt:∀ k,E' k->k<w'.heap.size):TabV (w'.setCell ⟨g,i,none⟩ v') T E' (s.put i zs) rv fv (vs.set i v'):=by
 have eg:=h.eN g (by rw [hr]; rfl)
 have other:∀ k,E k->(∀ q,¬ InWin (tnv vs i) k q)->w'.heap[k]?=w.heap[k]?:=fun k ek hn=>ht.block k (h.lt k ek) hn
 have rT:RowAt w' T _ _:=(other T h.eT (fun q e=>(h.eW i T q hi e).2.1 rfl)).trans h.row
 have rN:=own_keep h.nodes fun k e=>other k (h.eN k e).1 (fun q f=>(h.eW i k q hi f).2.2.1 e)
 have rF:=own_keep h.free fun k e=>other k (h.eF k e).1 (fun q f=>(h.eW i k q hi f).2.2.2 e)
 have win':∀ k q,InWin v' k q->E' k∧k≠T∧rv.ownBlock≠some k∧fv.ownBlock≠some k:=fun k q e=>by
  rcases hw k q e with f | f
  ·have:=h.eW i k q hi f
   exact ⟨hE k this.1,this.2⟩
  ·refine ⟨hE2 k f (InWin.lt hm e),fun t=>?_,fun t=>?_,fun t=>?_⟩
   ·have:=h.lt T h.eT; omega
   ·have:=h.lt k (h.eN k t).1; omega
   ·have:=h.lt k (h.eF k t).1; omega
 refine ⟨rT.other (fun e=>eg.2 e) _,?_,own_keep rF fun k e=>Below.heap_setCell _ _ _ _ (fun q=>?_),by rw [List.length_set,h.len]; show _=(s.nds.set i zs).length; rw [List.length_set],fun j hj=>?_,fun j l k q hj hl e1 e2=>?_,hE T h.eT,fun k e=>⟨hE k (h.eN k e).1,(h.eN k e).2⟩,fun k e=>⟨hE k (h.eF k e).1,(h.eF k e).2⟩,fun j k q hj e=>?_,fun k e=>?_⟩
 ·rw [List.length_set]
  rw [hr] at rN ⊢
  have:=rN.stored i v'
  exact this.1
 ·have q:k=g:=q
  subst q
  exact (h.eF k e).2.2 (by rw [hr]; rfl)
 ·rw [List.length_set] at hj
  rw [nv_set hi,Tab.put_nd (by rw [<-h.len]; exact hi)]
  by_cases e:j=i
  ·subst e
   rw [if_pos rfl,if_pos rfl]
   exact hm.keep fun k q f=>Below.heap_setCell _ _ _ _ (fun t=>(win' k q f).2.2.1 (by rw [hr]; show some g=some k; rw [t]))
  ·rw [if_neg e,if_neg e]
   refine ((h.node j hj).turn ht (fun k q f1 f2=>e (h.apart j i k q hj hi f1 f2))).keep fun k q f=>Below.heap_setCell _ _ _ _ (fun t=>(h.eW j k q hj f).2.2.1 (by rw [hr]; show some g=some k; rw [t]))
 ·rw [List.length_set] at hj hl
  rw [nv_set hi] at e1 e2
  have key:∀ m,m<vs.length->m≠i->InWin (tnv vs m) k q->¬ InWin v' k q:=fun m hml hmi f1 f2=>by
   rcases hw k q f2 with f | f
   ·exact hmi (h.apart m i k q hml hi f1 f)
   ·have:=h.lt k (h.eW m k q hml f1).1; omega
  by_cases c1:j=i
  ·by_cases c2:l=i
   ·omega
   ·rw [if_pos c1] at e1
    rw [if_neg c2] at e2
    exact absurd e1 (key l hl c2 e2)
  ·by_cases c2:l=i
   ·rw [if_neg c1] at e1
    rw [if_pos c2] at e2
    exact absurd e2 (key j hj c1 e1)
   ·rw [if_neg c1] at e1
    rw [if_neg c2] at e2
    exact h.apart j l k q hj hl e1 e2
 ·rw [List.length_set] at hj
  rw [nv_set hi] at e
  by_cases c1:j=i
  ·rw [if_pos c1] at e; exact win' k q e
  ·rw [if_neg c1] at e
   have:=h.eW j k q hj e
   exact ⟨hE k this.1,this.2⟩
 ·have:(w'.setCell ⟨g,i,none⟩ v').heap.size=w'.heap.size:=by simp [World.setCell]
  rw [this]; exact hlt k e
theorem TabV.field {s':Tab} {u:Value} (j:Nat) (h:TabV w T E s rv fv vs) (hn:s'.nds=s.nds) (hf:s'.free=s.free)
  (hr:[rv,fv,Value.int .i64 s.root,.int .i64 s.depth,.int .i64 s.count].set j u=[rv,fv,.int .i64 s'.root,.int .i64 s'.depth,.int .i64 s'.count]):TabV (w.setCell ⟨T,j,none⟩ u) T E s' rv fv vs:=by
 have r:=h.row.set j u
 rw [hr] at r
 have k:∀ k,k≠T->(w.setCell ⟨T,j,none⟩ u).heap[k]?=w.heap[k]?:=fun k q=>Below.heap_setCell _ _ _ _ q
 have e:∀ i,s'.nd i=s.nd i:=fun i=>by unfold Tab.nd; rw [hn]
 refine ⟨r,own_keep h.nodes fun i q=>k i (h.eN i q).2,by rw [hf]; exact own_keep h.free fun i q=>k i (h.eF i q).2.1,by rw [h.len,hn],fun i hi=>by rw [e]; exact (h.node i hi).keep fun m q f=>k m (h.eW i m q hi f).2.1,h.apart,h.eT,h.eN,h.eF,h.eW,fun i q=>?_⟩
 have:(w.setCell ⟨T,j,none⟩ u).heap.size=w.heap.size:=by simp [World.setCell]
 rw [this]; exact h.lt i q
end

end Go.Proofs.YtoljhoabbaigdaaGreat

namespace Go.Proofs.YtoljhoabbaigdaaGreat
open Go.RowKit

section
variable {P:Program} {ops:Array Oper} {o:Oper} {a:Act} {w:World}
theorem step_copy2 {K:Act->World->Prop} {Q:Exit->Act->World->Prop} {E:Prop} (hgd:o.guard=none) (d s:Operand) (dT sT:TypeId)
    (ho:o.op=.call { callee:=.builtin .copy,args:=#[d,s],argTypes:=#[dT,sT] }) (elem:TypeId) (hu:P.underlying dT=some (.slice elem)) (hsz:(P.info? elem).map (·.size)=some 2)
    (ad:Addr) (dLen dCap sLen sCap:Nat) (b off:Nat) (hd:a.eval d=.slice (some ⟨b,off,none⟩) dLen dCap) (hs:a.eval s=.slice (some ad) sLen sCap)
    (cs:List Value) (n:Nat) (hn:n=Nat.min sLen dLen) (hl:cs.length=n * 2)
    (hsrc:∀ j v,cs[j]?=some v->w.cell? (ad.add j)=some v) (hc:∀ j,j<cs.length->(w.cell? ⟨b,off+j,none⟩).isSome=true) (hf:∀ j,j<cs.length->w.frozen? ⟨b,off+j,none⟩=false) (h1:∀ v ∈ cs,v.oneCell'=true)
    (h:K (a.put o.dst (goInt n)) (w.setCells b off cs)) :
    if Region.wanted o (yielded ops a.tmps)=true then Oper.wp P o a w K Q else E:=by
  have hw:Region.wanted o (yielded ops a.tmps)=true:=by simp [Region.wanted,hgd]
  rw [if_pos hw]
  have hrun:=run_copy2 (P:=P) w dT sT o.type elem b off dLen dCap ad sLen sCap cs n hu hsz hn hl hsrc hc hf h1
  unfold Oper.wp
  simp [execOp,ho,resolve,invoke,builtin,hd,hs,hrun,Result.andThen]
  exact h
theorem wp_copy2 {rest:List Oper} {Q:Exit->Act->World->Prop} (hgd:o.guard=none) (d s:Operand) (dT sT:TypeId)
    (ho:o.op=.call { callee:=.builtin .copy,args:=#[d,s],argTypes:=#[dT,sT] }) (elem:TypeId) (hu:P.underlying dT=some (.slice elem)) (hsz:(P.info? elem).map (·.size)=some 2)
    (ad:Addr) (dLen dCap sLen sCap:Nat) (b off:Nat) (hd:a.eval d=.slice (some ⟨b,off,none⟩) dLen dCap) (hs:a.eval s=.slice (some ad) sLen sCap)
    (cs:List Value) (n:Nat) (hn:n=Nat.min sLen dLen) (hl:cs.length=n * 2)
    (hsrc:∀ j v,cs[j]?=some v->w.cell? (ad.add j)=some v) (hc:∀ j,j<cs.length->(w.cell? ⟨b,off+j,none⟩).isSome=true) (hf:∀ j,j<cs.length->w.frozen? ⟨b,off+j,none⟩=false) (h1:∀ v ∈ cs,v.oneCell'=true)
    (h:wpList P ops Q rest (a.put o.dst (goInt n)) (w.setCells b off cs)):wpList P ops Q (o :: rest) a w:=by
  refine wpList_plain hgd fun K hK=>?_
  have hrun:=run_copy2 (P:=P) w dT sT o.type elem b off dLen dCap ad sLen sCap cs n hu hsz hn hl hsrc hc hf h1
  unfold Oper.wp
  simp [execOp,ho,resolve,invoke,builtin,hd,hs,hrun,Result.andThen]
  exact hK _ _ h
end
theorem size2:(Tryz.prog.info? 221).map (·.size)=some 2:=by kernel_rfl

def ins (zs:KV) (i:Nat) (x:ByteArray × Int):KV:=zs.take i++x :: zs.drop i
theorem ins_len (zs:KV) (i:Nat) (x:ByteArray × Int) (h:i<=zs.length):(ins zs i x).length=zs.length+1:=by unfold ins; simp; omega
theorem rangeAt_part {w:World} {b o:Nat} {zs:KV} (h:w.rangeAt b o (itc zs)) (i:Nat) (hi:i<=zs.length):w.rangeAt b o (itc (zs.take i))∧w.rangeAt b (o+i * 2) (itc (zs.drop i)):=by
  have e:itc zs=itc (zs.take i)++itc (zs.drop i):=by rw [<-itc_append,List.take_append_drop]
  rw [e,rangeAt_append,itc_len,List.length_take,Nat.min_eq_left hi] at h
  exact h
def MvPost (w:World) (v:Value) (zs:KV) (e:Ending) (w':World):Prop:=∃ v',e=.returned v'∧Moved w v zs v' w'

theorem insert_end (w:World) (b o c g:Nat) (zs:KV) (x:ByteArray × Int) (h:WinAt w b o c zs) (hl:zs.length<=100000) (hx:w.rangeAt g 0 (it2 x)) :
    Calls Tryz.prog 168 #[.slice (some ⟨b,o,none⟩) zs.length c,.int .i64 zs.length,.slice (some ⟨g,0,none⟩) 1 1] w (MvPost w (.slice (some ⟨b,o,none⟩) zs.length c) (ins zs zs.length x)):=by
  obtain ⟨v',w',hrun,hm,_⟩:=run_app w 236 235 236 Tryz.underlying236 Tryz.underlying235 b o c zs [x] h g 0 1 (by simpa [itc] using hx) (by simp; omega)
  have e:ins zs zs.length x=zs++[x]:=by unfold ins; simp
  rw [e]
  have hcm:=h.cap
  have hfit:=h.fit
  unfold maxLen at hcm
  have HM:=qh hm
  have HR:=qh hrun
  obtain ⟨n,hn⟩:=nmq (zs.length)
  rw [<-hn] at HR HM hl hfit ⊢
  clear hrun hm h hx e hn
  go_enter Tryz.func168,Tryz.ntmps168
  go_wp2_with (at_builtin; refine Lib.wpList_append_run _ rfl (.tmp 23) (.tmp 24) 236 235 rfl _ _ rfl rfl _ _ HR.out ?_)
  all_goals go_ret
  all_goals first
    | exact ⟨_,rfl,HM.out⟩
    | (obtain rfl:c=n:=by omega
       exact ⟨_,rfl,HM.out⟩)

theorem insert_room (w:World) (b o c g i:Nat) (zs:KV) (x:ByteArray × Int) (h:WinAt w b o c zs) (hi:i<zs.length) (hr:zs.length+1<=c) (hx:w.heap[g]?=some (.cells (it2 x).toArray 221 (0,0))) (hne:g≠b) :
    Calls Tryz.prog 168 #[.slice (some ⟨b,o,none⟩) zs.length c,.int .i64 i,.slice (some ⟨g,0,none⟩) 1 1] w (MvPost w (.slice (some ⟨b,o,none⟩) zs.length c) (ins zs i x)):=by
  obtain ⟨cur,hcur⟩:=h.plain
  have hcs:0<cur.size:=by
    have:=h.there 0 (by omega)
    rw [cell_of_row w b _ cur _ _ hcur] at this
    by_cases q:0<cur.size
    · exact q
    · rw [Array.getElem?_eq_none (by omega)] at this; cases this
  have hov:∀ lb cb,(callFunc 169 #[.slice (some ⟨g,0,none⟩) 1 1,.slice (some ⟨b,o+(i+1) * 2,none⟩) lb cb]).run Tryz.prog w=.ok (.value (.bool false)) w:=fun lb cb=>by
    rw [run_callFunc_extern Tryz.func169 (by kernel_rfl) (by kernel_rfl) (by kernel_rfl) (e:=Extern.SlicesOverlaps.overlaps #[235,235] #[4]) (by kernel_rfl),
      Lib.run_overlaps_apart w 235 4 221 Tryz.underlying235 2 (fun w=>by simp [Go.sizeOf,typeInfo]; first | rfl | kernel_rfl) ⟨g,0,none⟩ ⟨b,o+(i+1) * 2,none⟩ 1 1 lb cb hne 221 221 2 cur.size
        (by simp [World.shape?,hx,it2]) (by simp [World.shape?,hcur]) (by omega) (by simp [World.frozen?,hx]) (by simp [World.frozen?,hx])]
    rfl
  obtain ⟨p1,p2⟩:=rangeAt_part h.row i (by omega)
  obtain ⟨C1,hC1⟩:=nmq (itc (zs.drop i))
  have c1o:∀ u ∈ C1,u.oneCell'=true:=by rw [hC1]; exact itc_one _
  obtain ⟨n,hn⟩:=nmq (zs.length)
  have c1l:C1.length=(n-i) * 2:=by rw [hC1,itc_len,List.length_drop,hn]
  rw [<-hC1] at p2
  have hcm:=h.cap
  unfold maxLen at hcm
  have HX:=qh hx
  have HW:=qh h
  have P1:=qh p1
  have P2:=qh p2
  have C1O:=qh c1o
  have C1L:=qh c1l
  have HC1:=qh hC1
  have HN:=qh hn
  have HNE:=qh hne
  rw [<-hn] at hi hr ⊢
  have hw1:IntKind.i64.wrap ((i:Int)+1)=(i:Int)+1:=by rw [IntKind.wrap_i64]; omega
  have hb1:(0:Int)<=(i:Int)+1:=by omega
  have htn:((i:Int)+1).toNat=i+1:=by omega
  have hb2:¬ (c=i+1):=by omega
  have hb3:(i:Int)<=(n:Int)+1:=by omega
  have hb4:¬ (c=i):=by omega
  have hin:i<=n:=by omega
  have hz2:¬ ((i:Int)=(n:Int)):=by omega
  clear h hx p1 p2 c1o c1l hC1 hn hcur hcs
  go_enter Tryz.func168,Tryz.ntmps168
  go_wp2_with (simp only [hov])
  have th:=qh (show ∀ j,j<C1.length->(w.drew.cell? ⟨b,o+(i+1) * 2+j,none⟩).isSome=true from fun j hj=>by
    have e:=C1L.out
    have:=HW.out.there ((i+1) * 2+j) (by omega)
    rw [<-Nat.add_assoc] at this; exact this)
  have fz:=qh (show ∀ k,w.drew.frozen? ⟨b,k,none⟩=false from fun k=>HW.out.plain.frozen k)
  go_region_law (refine step_copy2 rfl (.tmp 73) (.tmp 76) 236 236 rfl 221 Tryz.underlying236 size2 ⟨b,o+i * 2,none⟩ (n+1-(i+1)) (c-(i+1)) (n+1-i) (c-i) b (o+(i+1) * 2) (by simp [Act.eval,Act.put]) (by simp [Act.eval,Act.put]) C1 (n-i) (by simp only [Nat.min_def]; split<;>omega) C1L.out (add_mid (by exact P2.out)) th.out (fun j _=>fz.out _) C1O.out ?_)
  have t1:Turn (InWin (.slice (some ⟨b,o,none⟩) n c)) w w.drew:=Turn.of_below (Below.refl _ w).drew
  have t2:=t1.trans (Turn.setCells w.drew b (o+(i+1) * 2) C1) (fun k j h=>.inl (by
    obtain ⟨rfl,h1,h2⟩:=h
    have e:=C1L.out
    exact ⟨o,_,c,rfl,by omega,by omega⟩))
  have r1:(w.drew.setCells b (o+(i+1) * 2) C1).rangeAt b (o+(i+1) * 2) C1:=setCells_at th.out
  have r0:(w.drew.setCells b (o+(i+1) * 2) C1).rangeAt b o (itc (zs.take i)):=World.rangeAt_setCells_apart (w:=w.drew) P1.out _ _ _ (.inr (.inl (by rw [itc_len,List.length_take]; have:=Nat.min_le_left i zs.length; omega)))
  have rx:(w.drew.setCells b (o+(i+1) * 2) C1).heap[g]?=some (.cells (it2 x).toArray 221 (0,0)) :=
    ((Turn.setCells w.drew b (o+(i+1) * 2) C1).block g (by have:=HX.out; exact (Array.getElem?_eq_some_iff.1 this).1) (fun j e=>HNE.out e.1)).trans HX.out
  have w1:∀ j,j<c * 2->((w.drew.setCells b (o+(i+1) * 2) C1).cell? ⟨b,o+j,none⟩).isSome=true:=fun j hj=>World.isSome_setCells _ _ _ _ _ (HW.out.there j hj)
  have pl:Plain (w.drew.setCells b (o+(i+1) * 2) C1) b:=Plain.setCells _ _ _ _ (by exact HW.out.plain)
  generalize w.drew.setCells b (o+(i+1) * 2) C1=w2 at t2 r1 r0 rx w1 pl ⊢
  have T2:=qh t2
  have R1:=qh r1
  have R0:=qh r0
  have RX:=qh (show w2.rangeAt g 0 (it2 x) from fun j v hj=>by
    rw [cell_of_row _ _ _ _ _ _ rx,List.getElem?_toArray,Nat.zero_add]; exact hj)
  have W1:=qh w1
  have PL:=qh pl
  have X1:=qh (show ∀ u ∈ it2 x,u.oneCell'=true from fun u hu=>itc_one [x] u (by simpa [itc] using hu))
  clear t1 t2 r1 r0 rx w1 pl hov th fz
  go_wp2_with ((with_reducible refine wp_copy2 (o:=⟨some 82,_,_,_,_,_⟩) rfl (.tmp 80) (.tmp 81) 236 235 rfl 221 Tryz.underlying236 size2 ⟨g,0,none⟩ (n+1-i) (c-i) 1 1 b (o+i * 2) ?c3 ?c4 (it2 x) 1 ?c5 ?c6 (add_mid RX.out) ?c7 (fun j _=>PL.out.frozen _) X1.out ?_); (case c3=>rfl); (case c4=>rfl); (case c5=>(simp only [Nat.min_def]; split<;>omega)); (case c6=>rfl); (case c7=>(intro j hj; have hj2:j<2:=hj; have:=W1.out (i * 2+j) (by omega); rw [<-Nat.add_assoc] at this; exact this)))
  go_ret
  have hx2:∀ j,j<(it2 x).length->(w2.cell? ⟨b,o+i * 2+j,none⟩).isSome=true:=fun j hj=>by
    have hj2:j<2:=hj
    have:=W1.out (i * 2+j) (by omega)
    rw [<-Nat.add_assoc] at this; exact this
  have hn:=HN.out
  have li:(zs.take i).length=i:=by rw [List.length_take,Nat.min_eq_left (by omega)]
  have e1:n+1=(ins zs i x).length:=by rw [ins_len _ _ _ (by omega),hn]
  refine ⟨_,rfl,?_,?_,fun k j hk=>.inl ?_,by simp⟩
  · rw [e1]
    refine WinAt.node ⟨by omega,by unfold maxLen; omega,by omega,?_,fun j hj=>World.isSome_setCells _ _ _ _ _ (W1.out j hj),Plain.setCells _ _ _ _ PL.out⟩
    unfold ins
    rw [itc_append,itc_cons,rangeAt_append,rangeAt_append,itc_len,li,<-HC1.out]
    refine ⟨World.rangeAt_setCells_apart R0.out _ _ _ (.inr (.inl (by rw [itc_len,li]; omega))),setCells_at hx2,World.rangeAt_setCells_apart (by rw [show o+i * 2+(it2 x).length=o+(i+1) * 2 by show o+i * 2+2=_; omega]; exact R1.out) _ _ _ (.inr (.inr ?_))⟩
    exact Nat.le_refl _
  · exact T2.out.trans (Turn.setCells w2 b (o+i * 2) (it2 x)) (fun k j h=>.inl (by
      obtain ⟨rfl,h1,h2⟩:=h
      have h3:j<o+i * 2+2:=h2
      exact ⟨o,_,c,rfl,by omega,by omega⟩))
  · obtain ⟨o',n',c',e,h1,h2⟩:=hk
    injection e with e1 e2 e3
    injection e1 with e1
    injection e1 with e1 e4 _
    subst e1; subst e4; subst e3
    exact ⟨o,_,c,rfl,h1,h2⟩

theorem insert_grow (w:World) (b o c g i:Nat) (zs:KV) (x:ByteArray × Int) (h:WinAt w b o c zs) (hi:i<zs.length) (hl:zs.length<=100000) (hr:c<zs.length+1) (hx:w.heap[g]?=some (.cells (it2 x).toArray 221 (0,0))) :
    Calls Tryz.prog 168 #[.slice (some ⟨b,o,none⟩) zs.length c,.int .i64 i,.slice (some ⟨g,0,none⟩) 1 1] w (MvPost w (.slice (some ⟨b,o,none⟩) zs.length c) (ins zs i x)):=by
  obtain ⟨n,hn⟩:=nmq (zs.length)
  obtain ⟨i0,hi0,hz0,hzs,hzb⟩:=info_parts infoIt
  obtain ⟨p1,p2⟩:=rangeAt_part h.row i (by omega)
  have hgl:g<w.heap.size:=(Array.getElem?_eq_some_iff.1 hx).1
  have hbl:b<w.heap.size:=h.plain.lt
  have hnc:=h.fit
  have hcm:=h.cap
  unfold maxLen at hcm
  have li:(zs.take i).length=i:=by rw [List.length_take,Nat.min_eq_left (by omega)]
  have hold:(Builtin.firstCells i0.size i (.slice (some ⟨b,o,none⟩) i c)).run Tryz.prog w.drew=.ok (itc (zs.take i)).toArray w.drew:=by
    rw [hzs]
    exact run_firstCells_some w.drew 2 i ⟨b,o,none⟩ i c _ (by rw [itc_len,li]) (add_mid (by exact p1))
  have hik:i+(n+1-i)=n+1:=by omega
  have hkk:(n:Int)+1-(i:Int)=((n+1-i:Nat):Int):=by omega
  obtain ⟨G,hG⟩:=nmq (grownCap w (n+1) c 221)
  have hGge:n+1<=G:=by rw [hG]; exact grownCap_ge _ _ _ _
  have hGle:G<=maxLen:=by rw [hG]; exact grownCap_le_maxLen _ _ _ _ (by unfold maxLen; omega)
  obtain ⟨Z,hZ⟩:∃ Z:List Value,Z=(Builtin.zeroCells (Value.agg #[Value.string ⟨#[]⟩,Value.int .i64 0]).cells (n+1-i)++Builtin.zeroCells (Value.agg #[Value.string ⟨#[]⟩,Value.int .i64 0]).cells (G-(n+1))).toList:=⟨_,rfl⟩
  have hZl:Z.length=(G-i) * 2:=by
    rw [hZ,Array.length_toList,Array.size_append,size_zeroCells,size_zeroCells]
    show (n+1-i) * 2+(G-(n+1)) * 2=(G-i) * 2
    omega
  have hrz:∀ ty,(Builtin.append_ #[236,3] ty #[.slice (some ⟨b,o,none⟩) i c,.int .i64 ((n:Int)+1-(i:Int))]).run Tryz.prog w =
      .ok (.slice (some ⟨w.heap.size,0,none⟩) (n+1) G) (w.drew.alloc (.cells (itc (zs.take i)++Z).toArray 221)):=fun ty=>by
    have h:=Lib.run_append_grow_zeros w 236 3 ty 221 i0 _ .i64 .i64 Tryz.underlying236 Tryz.underlying3 hi0 hz0 (some ⟨b,o,none⟩) i c _ hold (n+1-i) (by omega) (by omega) (by omega) (by omega) (by rw [hzb]; omega) (by rw [hzb,hik]; exact growslice_fits (by omega) (by omega))
    rw [hik,<-hG] at h
    rw [hkk,h,hZ]
    congr 3
    apply Array.ext'
    simp
  obtain ⟨C1,hC1⟩:=nmq (itc (zs.drop i))
  have c1o:∀ u ∈ C1,u.oneCell'=true:=by rw [hC1]; exact itc_one _
  have c1l:C1.length=(n-i) * 2:=by rw [hC1,itc_len,List.length_drop,hn]
  rw [<-hC1] at p2
  obtain ⟨R0,hR0⟩:∃ R0:List Value,R0=itc (zs.take i)++Z:=⟨_,rfl⟩
  have hR0l:R0.length=G * 2:=by rw [hR0,List.length_append,itc_len,li,hZl]; omega
  rw [<-hR0] at hrz
  obtain ⟨W1,hW1⟩:=nmq (w.drew.alloc (.cells R0.toArray 221))
  rw [<-hW1] at hrz
  have hrow1:W1.heap[w.heap.size]?=some (.cells R0.toArray 221 (0,0)):=by rw [hW1]; exact heap_alloc_new w.drew _
  have hbel1:Below w.heap.size w W1:=by rw [hW1]; exact (Below.refl _ _).drew.alloc (Nat.le_refl _) _
  have hr0:W1.rangeAt w.heap.size 0 (itc (zs.take i)):=by rw [hW1,hR0]; exact grown_row
  have hth:∀ j,j<G * 2->(W1.cell? ⟨w.heap.size,0+j,none⟩).isSome=true:=fun j hj=>by
    rw [cell_of_row _ _ _ _ _ _ hrow1,List.getElem?_toArray,Nat.zero_add,List.getElem?_eq_getElem (by omega)]; rfl
  have hcg:W1.rangeAt g 0 (it2 x):=fun j v hj=>by
    rw [World.cell?_of_block (a:=⟨g,0+j,none⟩) (hbel1.block g hgl),cell_of_row _ _ _ _ _ _ hx,List.getElem?_toArray,Nat.zero_add]; exact hj
  have hp2:W1.rangeAt b (o+i * 2) C1:=fun j v hj=>(World.cell?_of_block (a:=⟨b,o+i * 2+j,none⟩) (hbel1.block b hbl)).trans (p2 j v hj)
  have HC1:=qh hC1
  have HN:=qh hn
  have C1O:=qh c1o
  have C1L:=qh c1l
  have LI:=qh li
  have HB:=qh hbel1
  have R0':=qh hr0
  have TH:=qh hth
  have CG:=qh hcg
  have P2:=qh hp2
  have PL:=qh (show Plain W1 w.heap.size from ⟨_,hrow1⟩)
  have X1:=qh (show ∀ u ∈ it2 x,u.oneCell'=true from fun u hu=>itc_one [x] u (by simpa [itc] using hu))
  obtain ⟨gw,hgw⟩:=nmq (w.heap.size)
  have HGW:=qh hgw
  rw [<-hgw] at hrz R0' TH PL hgl hbl
  have HRZ:=qh hrz
  have BN:=qh (show b≠gw from by omega)
  have GN:=qh (show g≠gw from by omega)
  unfold maxLen at hGle
  rw [<-hn] at hi hl hr hnc ⊢
  have hw1:IntKind.i64.wrap ((i:Int)+1)=(i:Int)+1:=by rw [IntKind.wrap_i64]; omega
  have hb1:(0:Int)<=(i:Int)+1:=by omega
  have htn:((i:Int)+1).toNat=i+1:=by omega
  have hb2:¬ (G=i+1):=by omega
  have hb3:(i:Int)<=(n:Int)+1:=by omega
  have hb4:¬ (c=i):=by omega
  have hb5:¬ (G=i):=by omega
  have hin:i<=n:=by omega
  have hz2:¬ ((i:Int)=(n:Int)):=by omega
  clear hC1 c1l c1o hn hx hZ hZl hR0 hR0l hW1 hrow1 hbel1 hrz hgw hG hold hkk hik hi0 hz0 hzs hzb h p1 p2 hr0 hth hcg hp2 li
  go_enter Tryz.func168,Tryz.ntmps168
  go_wp2_with (first
    | (at_builtin; refine Lib.wpList_append_run _ rfl (.tmp 34) (.tmp 39) 236 3 rfl _ _ rfl rfl _ _ (HRZ.out _) ?_)
    | ((with_reducible refine wp_copy2 (o:=⟨some 45,_,_,_,_,_⟩) rfl (.tmp 43) (.tmp 44) 236 235 rfl 221 Tryz.underlying236 size2 ⟨g,0,none⟩ (n+1-i) (G-i) 1 1 gw (i * 2) ?c3 ?c4 (it2 x) 1 ?c5 ?c6 (add_mid CG.out) ?c7 (fun j _=>PL.out.frozen _) X1.out ?_); (case c3=>rfl); (case c4=>rfl); (case c5=>(simp only [Nat.min_def]; split<;>omega)); (case c6=>rfl); (case c7=>(intro j hj; have hj2:j<2:=hj; have:=TH.out (i * 2+j) (by omega); rw [Nat.zero_add] at this; exact this))))
  have hx2:∀ j,j<(it2 x).length->(W1.cell? ⟨gw,i * 2+j,none⟩).isSome=true:=fun j hj=>by
    have hj2:j<2:=hj
    have:=TH.out (i * 2+j) (by omega)
    rw [Nat.zero_add] at this; exact this
  have r1:(W1.setCells gw (i * 2) (it2 x)).rangeAt gw (i * 2) (it2 x):=setCells_at hx2
  have r0:(W1.setCells gw (i * 2) (it2 x)).rangeAt gw 0 (itc (zs.take i)):=World.rangeAt_setCells_apart R0'.out _ _ _ (.inr (.inl (by rw [itc_len,LI.out]; omega)))
  have r2:(W1.setCells gw (i * 2) (it2 x)).rangeAt b (o+i * 2) C1:=World.rangeAt_setCells_apart P2.out _ _ _ (.inl BN.out)
  have tw:∀ j,j<G * 2->((W1.setCells gw (i * 2) (it2 x)).cell? ⟨gw,0+j,none⟩).isSome=true:=fun j hj=>World.isSome_setCells _ _ _ _ _ (TH.out j hj)
  have pl:Plain (W1.setCells gw (i * 2) (it2 x)) gw:=Plain.setCells _ _ _ _ PL.out
  have tt:Turn (fun _ _=>False) w (W1.setCells gw (i * 2) (it2 x)):=(Turn.of_below (F:=fun _ _=>False) HB.out).trans (Turn.setCells W1 gw (i * 2) (it2 x)) (fun k j h=>.inr (by have:=h.1; have:=HGW.out; omega))
  generalize W1.setCells gw (i * 2) (it2 x)=w2 at r1 r0 r2 tw pl tt ⊢
  have R1:=qh r1
  have RZ:=qh r0
  have R2:=qh r2
  have TW:=qh (show ∀ j,j<C1.length->(w2.drew.cell? ⟨gw,(i+1) * 2+j,none⟩).isSome=true from fun j hj=>by
    have e:=C1L.out
    have:=tw ((i+1) * 2+j) (by omega)
    rw [Nat.zero_add] at this; exact this)
  have TW0:=qh tw
  have PL2:=qh pl
  have TT:=qh tt
  clear r1 r0 r2 tw pl tt hx2
  go_region_law (refine step_copy2 rfl (.tmp 50) (.tmp 53) 236 236 rfl 221 Tryz.underlying236 size2 ⟨b,o+i * 2,none⟩ (n+1-(i+1)) (G-(i+1)) (n-i) (c-i) gw ((i+1) * 2) (by simp [Act.eval,Act.put]) (by simp [Act.eval,Act.put]) C1 (n-i) (by simp only [Nat.min_def]; split<;>omega) C1L.out (add_mid (by exact R2.out)) TW.out (fun j _=>by exact PL2.out.frozen _) C1O.out ?_)
  go_wp2
  go_ret
  have hn:=HN.out
  have li:=LI.out
  have e1:n+1=(ins zs i x).length:=by rw [ins_len _ _ _ (by omega),hn]
  have dz:w2.drew.rangeAt gw 0 (itc (zs.take i)):=RZ.out
  have d1:w2.drew.rangeAt gw (i * 2) (it2 x):=R1.out
  refine ⟨_,rfl,?_,?_,fun k j hk=>.inr ?_,by simp⟩
  · rw [e1]
    refine WinAt.node ⟨by omega,by unfold maxLen; omega,by omega,?_,fun j hj=>World.isSome_setCells _ _ _ _ _ (by exact TW0.out j hj),Plain.setCells _ _ _ _ (by exact PL2.out)⟩
    unfold ins
    rw [itc_append,itc_cons,rangeAt_append,rangeAt_append,itc_len,li,<-HC1.out]
    refine ⟨World.rangeAt_setCells_apart dz _ _ _ (.inr (.inl (by rw [itc_len,li]; omega))),World.rangeAt_setCells_apart (by rw [Nat.zero_add]; exact d1) _ _ _ (.inr (.inl (by show 0+i * 2+2<=_; omega))),?_⟩
    rw [show 0+i * 2+(it2 x).length=(i+1) * 2 by show 0+i * 2+2=_; omega]
    exact setCells_at TW.out
  · have t1:Turn (fun _ _=>False) w w2.drew:=TT.out.trans (Turn.of_below (F:=fun _ _=>False) (Below.refl _ w2).drew) (fun _ _ e=>e.elim)
    exact (t1.trans (F:=fun _ _=>False) (Turn.setCells w2.drew gw ((i+1) * 2) C1) (fun k j h=>.inr (by have:=h.1; have:=HGW.out; omega))).mono (fun _ _ e=>e.elim)
  · obtain ⟨o',n',c',e,h1,h2⟩:=hk
    injection e with e1 e2 e3
    injection e1 with e1
    injection e1 with e1 e4 _
    have:=HGW.out
    omega

theorem xInsert (w:World) (b o c g i:Nat) (zs:KV) (x:ByteArray × Int) (h:WinAt w b o c zs) (hi:i<=zs.length) (hl:zs.length<=100000) (hx:w.heap[g]?=some (.cells (it2 x).toArray 221 (0,0))) (hne:g≠b) :
    Calls Tryz.prog 168 #[.slice (some ⟨b,o,none⟩) zs.length c,.int .i64 i,.slice (some ⟨g,0,none⟩) 1 1] w (MvPost w (.slice (some ⟨b,o,none⟩) zs.length c) (ins zs i x)):=by
  rcases Nat.lt_or_ge i zs.length with q | q
  · rcases Nat.lt_or_ge c (zs.length+1) with r | r
    · exact insert_grow w b o c g i zs x h q hl r hx
    · exact insert_room w b o c g i zs x h q r hx hne
  · obtain rfl:i=zs.length:=by omega
    exact insert_end w b o c g zs x h hl (fun j v hj=>by rw [cell_of_row _ _ _ _ _ _ hx,List.getElem?_toArray,Nat.zero_add]; exact hj)

end Go.Proofs.YtoljhoabbaigdaaGreat

namespace Go.Proofs.YtoljhoabbaigdaaGreat
open Go.RowKit

theorem NodeAt.form {w:World} {v:Value} {zs:KV} (h:NodeAt w v zs):∃ A c,v=.slice A zs.length c∧∀ j,j<zs.length->∃ b o,A=some ⟨b,o,none⟩∧w.cell? ⟨b,o+j * 2,none⟩=some (.string (zs.key j))∧w.cell? ⟨b,o+j * 2+1,none⟩=some (.int .i64 (zs.num j)):=by
 rcases h with ⟨rfl,rfl⟩ | ⟨b,o,c,rfl,h⟩
 ·exact ⟨none,0,rfl,fun j hj=>absurd hj (by simp)⟩
 ·exact ⟨_,c,rfl,fun j hj=>⟨b,o,rfl,h.cells j hj⟩⟩

theorem xBelow (w:World) (v:Value) (zs:KV) (k:ByteArray) (h:NodeAt w v zs) (hl:zs.length<=1000000) :
  Calls Tryz.prog 146 #[v,.string k] w fun x w'=>x=.returned (.int .i64 (zs.pos k:Nat))∧w'=w:=by
 obtain ⟨A,c,rfl,hc⟩:=h.form
 have PB:=qh (fun j (hj:j<zs.pos k)=>KV.pos_below k zs j hj)
 have PS:=qh (KV.pos_stop k zs)
 have KC:=qh hc
 have pl:=KV.pos_le k zs
 obtain ⟨n,hn⟩:=nmq (zs.length)
 obtain ⟨P,hP⟩:=nmq (zs.pos k)
 rw [<-hP] at PB PS pl ⊢
 rw [<-hn] at PS KC pl hl ⊢
 clear hc h hn hP
 go_enter Tryz.func146,Tryz.ntmps146
 go_wp2_with fail
 go_loopw [5] (fun v wr=>∃ i:Nat,i<=P∧v=.int .i64 i∧wr=w) (fun v _=>P-(Go.RowKit.intOf v).toNat)
 case atStart=>exact ⟨0,Nat.zero_le _,rfl,rfl⟩
 case round =>
  obtain ⟨i,hi,rfl,rfl⟩:=hrel
  by_cases q:i<P
  ·obtain ⟨b,o,rfl,cc,_⟩:=KC.out i (by omega)
   have t:=PB.out i q
   unfold ltB at t
   go_wp2_with fail
   go_roundw
   case rel=>exact ⟨i+1,by omega,by go_num,by first | trivial | rfl⟩
   case measure=>simp [Go.RowKit.intOf]; omega
  ·obtain rfl:i=P:=by omega
   by_cases q2:i<n
   ·obtain ⟨b,o,rfl,cc,_⟩:=KC.out i q2
    have t:=PS.out q2
    unfold ltB at t
    go_wp2_with fail
    go_ret
    exact ⟨rfl,rfl⟩
   ·go_wp2_with fail
    go_ret
    exact ⟨rfl,rfl⟩

def KV.kid (k:ByteArray) (l:KV):Nat:=if l.has k then l.pos k else l.pos k-1

theorem xKid (w:World) (v:Value) (zs:KV) (k:ByteArray) (h:NodeAt w v zs) (hl:zs.length<=1000000) :
  Calls Tryz.prog 145 #[v,.string k] w fun x w'=>x=.returned (.int .i64 (zs.kid k:Nat))∧w'=w:=by
 have XB:=qh (xBelow w v zs k h hl)
 obtain ⟨A,c,rfl,hc⟩:=h.form
 have KC:=qh hc
 have pl:=KV.pos_le k zs
 have HK:zs.kid k=if zs.has k then zs.pos k else zs.pos k-1:=rfl
 have HH:=KV.has_iff zs k
 obtain ⟨n,hn⟩:=nmq (zs.length)
 obtain ⟨P,hP⟩:=nmq (zs.pos k)
 obtain ⟨K,hK⟩:=nmq (zs.kid k)
 rw [<-hP] at XB pl HK HH
 rw [<-hn] at XB KC pl hl HH
 rw [<-hn]
 rw [<-hK] at HK ⊢
 have HH':=qh HH
 have HK':=qh HK
 clear hc h hn hP HH HK hK
 by_cases q:P<n
 ·obtain ⟨b,o,rfl,cc,_⟩:=KC.out P q
  by_cases e:zs.key P=k
  ·have HE:=qh (show K=P by rw [HK'.out,if_pos (HH'.out.2 ⟨q,e⟩)])
   have ek:((zs.key P).toList == k.toList)=true:=str_eq e
   clear e HH' HK'
   go_enter Tryz.func145,Tryz.ntmps145
   go_wp2_with (go_at_call 146; refine XB.out.mono ?_; rintro x w1 ⟨rfl,rfl⟩)
   go_ret
   exact ⟨by rw [HE.out]; rfl,rfl⟩
  ·have HE:=qh (show K=P-1 by rw [HK'.out,if_neg (fun t=>e (HH'.out.1 t).2)])
   have ek:((zs.key P).toList == k.toList)=false:=str_ne e
   clear e HH' HK'
   go_enter Tryz.func145,Tryz.ntmps145
   go_wp2_with (go_at_call 146; refine XB.out.mono ?_; rintro x w1 ⟨rfl,rfl⟩)
   all_goals go_ret
   all_goals exact ⟨ret_int (by rw [HE.out]; omega),rfl⟩
 ·have HE:=qh (show K=P-1 by rw [HK'.out,if_neg (fun t=>q (HH'.out.1 t).1)])
  clear HH' HK'
  go_enter Tryz.func145,Tryz.ntmps145
  go_wp2_with (go_at_call 146; refine XB.out.mono ?_; rintro x w1 ⟨rfl,rfl⟩)
  all_goals go_ret
  all_goals exact ⟨ret_int (by rw [HE.out]; omega),rfl⟩

end Go.Proofs.YtoljhoabbaigdaaGreat
