/- Proved parts: B1m D2m C9s C9r. Conditions: each theorem's own. -/
import Derived.Test.YtoljhoabbaigdaaGreatM6
import Derived.Test.YtoljhoabbaigdaaGreatM8
import Derived.Laws.AppendOwn
import Derived.Laws.MakeOwn
import Derived.Maps.AppendAt
import Derived.Test.YtoljhoabbaigdaaGreatQ0
set_option maxRecDepth 100000
set_option maxHeartbeats 8000000
namespace Go.Proofs.YtoljhoabbaigdaaGreat
open Go.RowKit

abbrev Ch:=List (ByteArray × List Ver)
namespace Ch
def kv (L:Ch):KV:=L.map fun x=>(x.1,0)
def pos (L:Ch) (k:ByteArray):Nat:=(kv L).pos k
def has (L:Ch) (k:ByteArray):Bool:=(kv L).has k
def key (L:Ch) (i:Nat):ByteArray:=(L.getD i (⟨#[]⟩,[])).1
def chn (L:Ch) (i:Nat):List Ver:=(L.getD i (⟨#[]⟩,[])).2
def Rise (L:Ch):Prop:=L.Pairwise fun x y=>ltB x.1 y.1=true
theorem kv_len (L:Ch):(kv L).length=L.length:=by unfold kv; simp
theorem kv_key (L:Ch) {i:Nat} (h:i<L.length):(kv L).key i=L.key i:=by
 unfold kv KV.key key
 rw [List.getD_eq_getElem?_getD,List.getD_eq_getElem?_getD,List.getElem?_map,List.getElem?_eq_getElem h]; rfl
theorem getE (L:Ch) {i:Nat} (h:i<L.length):L[i]=(L.key i,L.chn i):=by
 unfold key chn
 rw [List.getD_eq_getElem?_getD,List.getElem?_eq_getElem h]; rfl
theorem rise_at {L:Ch} (h:L.Rise) {i j:Nat} (hij:i<j) (hj:j<L.length):ltB (L.key i) (L.key j)=true:=by
 have:=List.pairwise_iff_getElem.1 h i j (by omega) hj hij
 rw [getE L (by omega),getE L hj] at this
 exact this
theorem pos_le (L:Ch) (k:ByteArray):L.pos k<=L.length:=by have:=KV.pos_le k (kv L); rw [kv_len] at this; exact this
theorem below {L:Ch} {k:ByteArray} {j:Nat} (h:j<L.pos k):ltB (L.key j) k=true:=by
 have:=KV.pos_below k (kv L) j h
 rwa [kv_key L (by have:=L.pos_le k; omega)] at this
theorem stop {L:Ch} {k:ByteArray} (h:L.pos k<L.length):ltB (L.key (L.pos k)) k=false:=by
 have:=KV.pos_stop k (kv L) (by rw [kv_len]; exact h)
 change ltB ((kv L).key (L.pos k)) k=false at this
 rwa [kv_key L h] at this
theorem has_iff (L:Ch) (k:ByteArray):L.has k=true↔L.pos k<L.length∧L.key (L.pos k)=k:=by
 have:=KV.has_iff (kv L) k
 rw [kv_len] at this
 constructor
 ·intro h
  have q:=this.1 h
  exact ⟨q.1,(kv_key L q.1).symm.trans q.2⟩
 ·intro h
  exact this.2 ⟨h.1,by show (kv L).key (L.pos k)=k; rw [kv_key L h.1]; exact h.2⟩
theorem not_has {L:Ch} {k:ByteArray} (h:L.has k=false) (hp:L.pos k<L.length):ltB k (L.key (L.pos k))=true:=by
 have s:=stop hp
 cases q:ltB k (L.key (L.pos k)) with
 | true=>rfl
 | false =>
  have:=(has_iff L k).2 ⟨hp,ltB_total s q⟩
  rw [h] at this; cases this
theorem above {L:Ch} (h:L.Rise) {k:ByteArray} {j:Nat} (hj:L.pos k<j) (hl:j<L.length):ltB k (L.key j)=true:=by
 have r:=rise_at h hj hl
 cases q:L.has k with
 | true =>
  have:=((has_iff L k).1 q).2
  rwa [this] at r
 | false=>exact ltB_trans (not_has q (by omega)) r
theorem ne_below {L:Ch} {k:ByteArray} {j:Nat} (h:j<L.pos k):L.key j≠k:=fun e=>by
 have:=below h
 rw [e,ltB_irr] at this; cases this
theorem ne_above {L:Ch} (h:L.Rise) {k:ByteArray} {j:Nat} (hj:L.pos k<j) (hl:j<L.length):L.key j≠k:=fun e=>by
 have:=above h hj hl
 rw [e,ltB_irr] at this; cases this
def of (L:Ch) (k:ByteArray):List Ver:=if L.has k then L.chn (L.pos k) else []
def put (L:Ch) (k:ByteArray) (v:Ver):Ch:=if L.has k then L.set (L.pos k) (k,L.chn (L.pos k)++[v]) else L.take (L.pos k)++(k,[v]) :: L.drop (L.pos k)
def wgt (x:ByteArray × List Ver):Nat:=if weightL x.2=0 then 0 else weightL x.2+x.1.size
def live (L:Ch):Nat:=(L.map wgt).sum
def vers (L:Ch):Nat:=(L.map fun x=>x.2.length).sum
def swept (L:Ch) (f:Int):Ch:=(L.map fun x=>(x.1,sweepL x.2 f)).filter fun x=>!x.2.isEmpty
def hit (L:Ch) (k:ByteArray) (ab:Bool) (s:Int) (i:Nat):Bool:=atOk (L.chn i) s && (ltB k (L.key i) || (!ab && ((L.key i).toList == k.toList)))
def frm (L:Ch) (k:ByteArray) (ab:Bool) (s:Int):Nat:=((List.range L.length).find? (L.hit k ab s)).getD L.length
end Ch
structure Wr where
 key:ByteArray
 gone:Bool
 val:Val
namespace Wr
def cs (x:Wr):List Value:=[.string x.key,.bool x.gone,.bool x.val.num,.string x.val.txt,.int .u64 (x.val.bits:Int)]
def v (x:Wr):Value:=.agg #[.string x.key,.bool x.gone,.bool x.val.num,.string x.val.txt,.int .u64 (x.val.bits:Int)]
def Z:Wr:=⟨⟨#[]⟩,false,Val.V0⟩
def ver (x:Wr) (q:Int):Ver:=⟨q,x.gone,x.val⟩
end Wr
structure En where
 key:ByteArray
 seq:Int
 val:Val
namespace En
def cs (x:En):List Value:=[.string x.key,.int .i64 x.seq,.bool x.val.num,.string x.val.txt,.int .u64 (x.val.bits:Int)]
def v (x:En):Value:=.agg #[.string x.key,.int .i64 x.seq,.bool x.val.num,.string x.val.txt,.int .u64 (x.val.bits:Int)]
def Z:En:=⟨⟨#[]⟩,0,Val.V0⟩
end En
def keyOk (k:ByteArray):Bool:=decide (1<=k.size) && decide (k.size<=32)
def wrOk (p:Option ByteArray) (x:Wr):Bool:=keyOk x.key && (x.val.ok && ((!x.gone || x.val.isZ) && (match p with | none=>true | some k=>ltB k x.key)))
def prevW (l:List Wr) (i:Nat):Option ByteArray:=if i=0 then none else some (l.getD (i-1) Wr.Z).key
def mayW (l:List Wr):Bool:=decide (1<=l.length) && (decide (l.length<=16) && (List.range l.length).all fun i=>wrOk (prevW l i) (l.getD i Wr.Z))
namespace Ch
def withW (L:Ch) (l:List Wr) (q:Int):Ch:=l.foldl (fun L x=>L.put x.key (x.ver q)) L
def ents (L:Ch) (s:Int):List En:=L.filterMap fun x=>if atOk x.2 s then some ⟨x.1,(atL x.2 s).seq,(atL x.2 s).val⟩ else none
end Ch

end Go.Proofs.YtoljhoabbaigdaaGreat

namespace Go.Proofs.YtoljhoabbaigdaaGreat
open Go.RowKit

abbrev Wl:=List Wr
namespace Wl
def ch (L:Wl):Ch:=L.map fun x=>(x.key,[])
def key (L:Wl) (i:Nat):ByteArray:=(L.getD i Wr.Z).key
def pos (L:Wl) (k:ByteArray):Nat:=L.ch.pos k
def has (L:Wl) (k:ByteArray):Bool:=L.ch.has k
def aft (L:Wl) (k:ByteArray):Nat:=if L.has k then L.pos k+1 else L.pos k
def frm (L:Wl) (k:ByteArray) (ab:Bool):Nat:=if ab then L.aft k else L.pos k
def Rise (L:Wl):Prop:=L.ch.Rise
def put (L:Wl) (x:Wr):Wl:=L.take (L.pos x.key)++x :: L.drop (L.aft x.key)
def may (x:Wr):Bool:=keyOk x.key && x.val.ok
def atV (L:Wl) (i:Nat):Wr:=if i<L.length then L.getD i Wr.Z else Wr.Z
section
variable {L:Wl} {k:ByteArray} {i j:Nat}
theorem ch_len (L:Wl):L.ch.length=L.length:=by unfold ch; simp
theorem ch_key (L:Wl) (h:i<L.length):L.ch.key i=L.key i:=by
 unfold ch Ch.key key
 rw [List.getD_eq_getElem?_getD,List.getD_eq_getElem?_getD,List.getElem?_map,List.getElem?_eq_getElem h]; rfl
theorem get (h:i<L.length):L[i]=L.getD i Wr.Z:=by rw [List.getD_eq_getElem?_getD,List.getElem?_eq_getElem h]; rfl
theorem pos_le (L:Wl) (k:ByteArray):L.pos k<=L.length:=by have:=L.ch.pos_le k; rw [ch_len] at this; exact this
theorem below (h:j<L.pos k):ltB (L.key j) k=true:=by
 rw [<-ch_key L (by have:=L.pos_le k; omega)]; exact Ch.below h
theorem stop (h:L.pos k<L.length):ltB (L.key (L.pos k)) k=false:=by
 have:=Ch.stop (L:=L.ch) (k:=k) (by rw [ch_len]; exact h)
 rw [<-ch_key L h]; exact this
theorem has_iff (L:Wl) (k:ByteArray):L.has k=true↔L.pos k<L.length∧L.key (L.pos k)=k:=by
 have:=Ch.has_iff L.ch k
 rw [ch_len] at this
 constructor
 ·intro h
  have q:=this.1 h
  exact ⟨q.1,(ch_key L q.1).symm.trans q.2⟩
 ·intro h
  exact this.2 ⟨h.1,(ch_key L h.1).trans h.2⟩
theorem not_has (h:L.has k=false) (hp:L.pos k<L.length):ltB k (L.key (L.pos k))=true:=by
 rw [<-ch_key L hp]; exact Ch.not_has h (by rw [ch_len]; exact hp)
theorem above (h:L.Rise) (hj:L.pos k<j) (hl:j<L.length):ltB k (L.key j)=true:=by
 rw [<-ch_key L hl]; exact Ch.above h hj (by rw [ch_len]; exact hl)
theorem rise_at (h:L.Rise) (hij:i<j) (hj:j<L.length):ltB (L.key i) (L.key j)=true:=by
 have:=Ch.rise_at h hij (by rw [ch_len]; exact hj)
 rwa [ch_key L (by omega),ch_key L hj] at this
theorem aft_le (L:Wl) (k:ByteArray):L.aft k<=L.length:=by
 unfold aft
 split
 ·rename_i h; have:=((has_iff L k).1 h).1; omega
 ·exact pos_le L k
theorem pos_aft (L:Wl) (k:ByteArray):L.pos k<=L.aft k:=by unfold aft; split<;>omega
theorem frm_le (L:Wl) (k:ByteArray) (ab:Bool):L.frm k ab<=L.length:=by
 unfold frm
 split
 ·exact aft_le L k
 ·exact pos_le L k
theorem le_of (h:L.Rise) (hl:j<L.length):(ltB k (L.key j)=true↔L.aft k<=j)∧((L.key j).toList=k.toList↔(L.has k=true∧j=L.pos k))∧(ltB (L.key j) k=true↔j<L.pos k):=by
 have irr:=ltB_irr k
 rcases Nat.lt_trichotomy j (L.pos k) with q | q | q
 ·have b:=below q
  have p:=pos_aft L k
  refine ⟨⟨fun a=>?_,fun a=>by omega⟩,⟨fun e=>?_,fun a=>by omega⟩,⟨fun _=>q,fun _=>b⟩⟩
  ·rw [ltB_asym b] at a; cases a
  ·rw [toList_inj e,irr] at b; cases b
 ·subst q
  have s:=stop hl
  cases hh:L.has k with
  | true =>
   have e:=((has_iff L k).1 hh).2
   unfold aft
   rw [hh,if_pos rfl,e,irr]
   exact ⟨⟨fun a=>by simp at a,fun a=>by omega⟩,⟨fun _=>⟨rfl,rfl⟩,fun _=>rfl⟩,⟨fun a=>by simp at a,fun a=>by omega⟩⟩
  | false =>
   have n:=not_has hh hl
   unfold aft
   rw [hh,if_neg (by simp),n,s]
   refine ⟨⟨fun _=>Nat.le_refl _,fun _=>rfl⟩,⟨fun e=>?_,fun a=>by simp at a⟩,⟨fun a=>by simp at a,fun a=>by omega⟩⟩
   rw [toList_inj e,irr] at n; cases n
 ·have a:=above h q hl
  have p:L.aft k<=j:=by unfold aft; split<;>omega
  refine ⟨⟨fun _=>p,fun _=>a⟩,⟨fun e=>?_,fun b=>by omega⟩,⟨fun b=>?_,fun b=>by omega⟩⟩
  ·rw [toList_inj e,irr] at a; cases a
  ·rw [ltB_asym a] at b; cases b
theorem frm_at (h:L.Rise) (hl:j<L.length) (ab:Bool):(ltB k (L.key j) || (!ab && ((L.key j).toList == k.toList)))=decide (L.frm k ab<=j):=by
 obtain ⟨h1,h2,h3⟩:=le_of (k:=k) h hl
 unfold frm
 cases ab with
 | true =>
  rw [if_pos rfl]
  simp only [Bool.not_true,Bool.false_and,Bool.or_false]
  cases q:ltB k (L.key j) with
  | true=>rw [decide_eq_true (h1.1 q)]
  | false=>rw [decide_eq_false (fun a=>by rw [h1.2 a] at q; cases q)]
 | false =>
  rw [if_neg (by simp)]
  simp only [Bool.not_false,Bool.true_and]
  by_cases q:L.pos k<=j
  ·rw [decide_eq_true q]
   by_cases e:L.aft k<=j
   ·rw [h1.2 e]; rfl
   ·have hh:L.has k=true:=by
     cases z:L.has k with
     | true=>rfl
     | false=>unfold aft at e; rw [z,if_neg (by simp)] at e; omega
    have:j=L.pos k:=by unfold aft at e; rw [hh,if_pos rfl] at e; omega
    rw [h2.2 ⟨hh,this⟩,beq_self_eq_true,Bool.or_true]
  ·rw [decide_eq_false q]
   have b:=h3.2 (by omega)
   rw [ltB_asym b,Bool.false_or,beq_eq_false_iff_ne]
   intro e
   have:=h2.1 e
   omega
def mid (L:Wl) (x:Wr) (i:Nat):Wl:=if i<=L.pos x.key then L.take i else L.take (L.pos x.key)++x :: (L.take i).drop (L.aft x.key)
theorem put_len (L:Wl) (x:Wr):(L.put x).length=if L.has x.key then L.length else L.length+1:=by
 unfold put aft
 have:=pos_le L x.key
 cases hh:L.has x.key with
 | true =>
  have:=((has_iff L x.key).1 hh).1
  simp; omega
 | false=>simp; omega
end
end Wl

end Go.Proofs.YtoljhoabbaigdaaGreat

namespace Go.Proofs.YtoljhoabbaigdaaGreat
open Go.RowKit

theorem infoVer:(Tryz.prog.info? 129).map (fun i=>(i.zero,i.size,i.bytes))=some (some Ver.Z.v,5,48):=by kernel_rfl
def vcs (l:List Ver):List Value:=l.flatMap Ver.cs
theorem vcs_len (l:List Ver):(vcs l).length=l.length * 5:=flat_len (f:=Ver.cs) (n:=5) (fun _=>rfl) l
def SlV (w:World) (A:Option Addr) (l:List Ver):Prop :=
 0<l.length->∃ b o,A=some ⟨b,o,none⟩∧b<w.heap.size∧∀ j,j<l.length →
  w.cell? ⟨b,o+j * 5,none⟩=some (.int .i64 (l.getD j Ver.Z).seq)∧w.cell? ⟨b,o+j * 5+1,none⟩=some (.bool (l.getD j Ver.Z).gone)∧w.cell? ⟨b,o+j * 5+2,none⟩=some (.bool (l.getD j Ver.Z).val.num) ∧
  w.cell? ⟨b,o+j * 5+3,none⟩=some (.string (l.getD j Ver.Z).val.txt)∧w.cell? ⟨b,o+j * 5+4,none⟩=some (.int .u64 ((l.getD j Ver.Z).val.bits:Int))
theorem SlV.below {w w':World} {A:Option Addr} {l:List Ver} (h:SlV w A l) (hb:Below w.heap.size w w'):SlV w' A l:=fun hp=>by
 obtain ⟨b,o,e,hl,hc⟩:=h hp
 refine ⟨b,o,e,Nat.lt_of_lt_of_le hl hb.size,fun j hj=>?_⟩
 obtain ⟨c0,c1,c2,c3,c4⟩:=hc j hj
 exact ⟨(hb.cell (p:=⟨b,o+j * 5,none⟩) hl).trans c0,(hb.cell (p:=⟨b,o+j * 5+1,none⟩) hl).trans c1,(hb.cell (p:=⟨b,o+j * 5+2,none⟩) hl).trans c2,(hb.cell (p:=⟨b,o+j * 5+3,none⟩) hl).trans c3,(hb.cell (p:=⟨b,o+j * 5+4,none⟩) hl).trans c4⟩
theorem SlV.nil (w:World) (A:Option Addr):SlV w A []:=fun h=>absurd h (by simp)
theorem SlV.at {w:World} {A:Option Addr} {l:List Ver} (h:SlV w A l) {j:Nat} (hj:j<l.length):∃ b o,A=some ⟨b,o,none⟩∧b<w.heap.size ∧
  w.cell? ⟨b,o+j * 5,none⟩=some (.int .i64 (l.getD j Ver.Z).seq)∧w.cell? ⟨b,o+j * 5+1,none⟩=some (.bool (l.getD j Ver.Z).gone)∧w.cell? ⟨b,o+j * 5+2,none⟩=some (.bool (l.getD j Ver.Z).val.num) ∧
  w.cell? ⟨b,o+j * 5+3,none⟩=some (.string (l.getD j Ver.Z).val.txt)∧w.cell? ⟨b,o+j * 5+4,none⟩=some (.int .u64 ((l.getD j Ver.Z).val.bits:Int)):=by
 obtain ⟨b,o,e,hl,hc⟩:=h (by omega)
 exact ⟨b,o,e,hl,hc j hj⟩
theorem SlV.drop {w:World} {b o:Nat} {l:List Ver} (h:SlV w (some ⟨b,o,none⟩) l) (k:Nat):SlV w (some ⟨b,o+k * 5,none⟩) (l.drop k):=fun hp=>by
 rw [List.length_drop] at hp
 obtain ⟨b',o',e,hl,hc⟩:=h (by omega)
 injection e with e
 injection e with e1 e2 _
 subst e1; subst e2
 refine ⟨b,o+k * 5,rfl,hl,fun j hj=>?_⟩
 rw [List.length_drop] at hj
 have:=hc (k+j) (by omega)
 rw [getD_drop,show o+k * 5+j * 5=o+(k+j) * 5 by omega]
 exact this
def OwnV (w:World) (B:Nat) (v:Value) (l:List Ver):Prop:=w.ownsRow B 129 5 v l.length (vcs l)
section
variable {w w':World} {B:Nat} {v:Value} {l:List Ver}
theorem OwnV.sl (h:OwnV w B v l):∃ A c,v=.slice A l.length c∧SlV w A l∧(0<l.length->∃ g,A=some ⟨g,0,none⟩):=by
 have h1:=h
 unfold OwnV at h1
 rcases h.2 with ⟨rfl,h0⟩ | ⟨g,cap,cur,rfl,hB,hg,_⟩
 ·exact ⟨none,0,by rw [h0],fun hp=>by omega,fun hp=>by omega⟩
 ·refine ⟨_,cap,rfl,fun hp=>⟨g,0,rfl,(Array.getElem?_eq_some_iff.1 hg).1,fun j hj=>?_⟩,fun _=>⟨g,rfl⟩⟩
  have at_:∀ i,i<5->w.cell? ⟨g,j * 5+i,none⟩=(l.getD j Ver.Z).cs[i]?:=fun i hi=>by
   rw [h1.cellAt (j * 5+i) (by omega),List.getD_eq_getElem?_getD,List.getElem?_eq_getElem hj]
   exact flat_at (f:=Ver.cs) (n:=5) (fun _=>rfl) l j i hj hi
  rw [Nat.zero_add]
  exact ⟨at_ 0 (by decide),at_ 1 (by decide),at_ 2 (by decide),at_ 3 (by decide),at_ 4 (by decide)⟩
theorem OwnV.sl2 (h:OwnV w B v l):∃ A c,v=.slice A l.length c∧SlV w A l∧l.length<=c∧(0<l.length->∃ g,A=some ⟨g,0,none⟩∧B<=g):=by
 obtain ⟨A,c,e,hs,_⟩:=h.sl
 rcases h.2 with ⟨e2,h0⟩ | ⟨g,cap,cur,e2,hB,hg,hc,_⟩
 ·exact ⟨A,c,e,hs,by omega,fun hp=>by omega⟩
 ·rw [e] at e2
  injection e2 with e3 _ e4
  exact ⟨A,c,e,hs,by rw [e4]; exact hc,fun _=>⟨g,e3,hB⟩⟩
theorem OwnV.below (h:OwnV w B v l) (hb:Below w.heap.size w w'):OwnV w' B v l:=by
 rcases h with ⟨h1,h2⟩
 refine ⟨h1,?_⟩
 rcases h2 with ⟨rfl,h0⟩ | ⟨g,cap,cur,rfl,hB,hg,r⟩
 ·exact .inl ⟨rfl,h0⟩
 ·refine .inr ⟨g,cap,cur,rfl,hB,?_,r⟩
  have hl:g<w.heap.size:=(Array.getElem?_eq_some_iff.1 hg).1
  rw [hb.block g hl]; exact hg
theorem OwnV.alloc (h:OwnV w B v l) (o:Obj):OwnV (w.alloc o) B v l:=World.ownsRow.alloc h o
theorem OwnV.lt (h:OwnV w B v l):∀ k,v.ownBlock=some k->B<=k∧k<w.heap.size:=World.ownsRow.lt h
theorem OwnV.made (w:World) (hB:B<=w.heap.size):OwnV (w.alloc (.cells #[] 129)) B (.slice (some ⟨w.heap.size,0,none⟩) 0 0) [] :=
 World.ownsRow_made w #[] 0 hB (Nat.zero_le _) (by simp)
end
end Go.Proofs.YtoljhoabbaigdaaGreat

namespace Go.Proofs.YtoljhoabbaigdaaGreat
open Go.RowKit

def FitsL (l:List Ver):Prop:=∀ x,x ∈ l->x.val.Fits
theorem FitsL.get {l:List Ver} (h:FitsL l) {i:Nat} (hi:i<l.length):(l.getD i Ver.Z).val.Fits:=by
 rw [List.getD_eq_getElem?_getD,List.getElem?_eq_getElem hi]
 exact h _ (List.getElem_mem hi)
theorem right_no {l:List Ver} {i:Nat} (hi:i<l.length) (h:mayV (prevS l i) (l.getD i Ver.Z)=false):rightL l=false:=by
 cases q:rightL l with
 | false=>rfl
 | true=>have:=(rightL_iff l).1 q i hi; rw [h] at this; cases this
theorem prevS_succ (l:List Ver) (i:Nat):prevS l (i+1)=(l.getD i Ver.Z).seq:=by
 unfold prevS
 rw [if_neg (by omega),Nat.add_sub_cancel]

end Go.Proofs.YtoljhoabbaigdaaGreat
