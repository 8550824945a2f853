/- Proved parts: B1m C9s C9r C9t. Conditions: each theorem's own. -/
import Derived.Test.YtomjlopcifafpaaGreatM6
import Derived.Test.YtomjlopcifafpaaGreatM8
import Derived.Laws.AppendOwn
import Derived.Laws.MakeOwn
import Derived.Maps.AppendAt
import Derived.BigQuiet
import Derived.Test.YtomjlopcifafpaaGreatQ2
set_option maxRecDepth 100000
set_option maxHeartbeats 8000000
namespace Go.Proofs.YtomjlopcifafpaaGreat
open Go.RowKit

abbrev Ch:=List (ByteArray × List Ver)
namespace Ch
def kv (L:Ch):KV:=L.map fun x=>(x.1,0)
def pos (L:Ch) (k:ByteArray):Nat:=(kv L).pos k
def has (L:Ch) (k:ByteArray):Bool:=(kv L).has k
def key (L:Ch) (i:Nat):ByteArray:=(L.getD i (⟨#[]⟩,[])).1
def chn (L:Ch) (i:Nat):List Ver:=(L.getD i (⟨#[]⟩,[])).2
def Rise (L:Ch):Prop:=L.Pairwise fun x y=>ltB x.1 y.1=true
theorem kv_len (L:Ch):(kv L).length=L.length:=by unfold kv; simp
theorem kv_key (L:Ch) {i:Nat} (h:i<L.length):(kv L).key i=L.key i:=by
 unfold kv KV.key key
 rw [List.getD_eq_getElem?_getD,List.getD_eq_getElem?_getD,List.getElem?_map,List.getElem?_eq_getElem h]; rfl
theorem getE (L:Ch) {i:Nat} (h:i<L.length):L[i]=(L.key i,L.chn i):=by
 unfold key chn
 rw [List.getD_eq_getElem?_getD,List.getElem?_eq_getElem h]; rfl
theorem rise_at {L:Ch} (h:L.Rise) {i j:Nat} (hij:i<j) (hj:j<L.length):ltB (L.key i) (L.key j)=true:=by
 have:=List.pairwise_iff_getElem.1 h i j (by omega) hj hij
 rw [getE L (by omega),getE L hj] at this
 exact this
theorem pos_le (L:Ch) (k:ByteArray):L.pos k<=L.length:=by have:=KV.pos_le k (kv L); rw [kv_len] at this; exact this
theorem below {L:Ch} {k:ByteArray} {j:Nat} (h:j<L.pos k):ltB (L.key j) k=true:=by
 have:=KV.pos_below k (kv L) j h
 rwa [kv_key L (by have:=L.pos_le k; omega)] at this
theorem stop {L:Ch} {k:ByteArray} (h:L.pos k<L.length):ltB (L.key (L.pos k)) k=false:=by
 have:=KV.pos_stop k (kv L) (by rw [kv_len]; exact h)
 change ltB ((kv L).key (L.pos k)) k=false at this
 rwa [kv_key L h] at this
theorem has_iff (L:Ch) (k:ByteArray):L.has k=true↔L.pos k<L.length∧L.key (L.pos k)=k:=by
 have:=KV.has_iff (kv L) k
 rw [kv_len] at this
 constructor
 ·intro h
  have q:=this.1 h
  exact ⟨q.1,(kv_key L q.1).symm.trans q.2⟩
 ·intro h
  exact this.2 ⟨h.1,by show (kv L).key (L.pos k)=k; rw [kv_key L h.1]; exact h.2⟩
theorem not_has {L:Ch} {k:ByteArray} (h:L.has k=false) (hp:L.pos k<L.length):ltB k (L.key (L.pos k))=true:=by
 have s:=stop hp
 cases q:ltB k (L.key (L.pos k)) with
 | true=>rfl
 | false =>
  have:=(has_iff L k).2 ⟨hp,ltB_total s q⟩
  rw [h] at this; cases this
theorem above {L:Ch} (h:L.Rise) {k:ByteArray} {j:Nat} (hj:L.pos k<j) (hl:j<L.length):ltB k (L.key j)=true:=by
 have r:=rise_at h hj hl
 cases q:L.has k with
 | true =>
  have:=((has_iff L k).1 q).2
  rwa [this] at r
 | false=>exact ltB_trans (not_has q (by omega)) r
theorem ne_below {L:Ch} {k:ByteArray} {j:Nat} (h:j<L.pos k):L.key j≠k:=fun e=>by
 have:=below h
 rw [e,ltB_irr] at this; cases this
theorem ne_above {L:Ch} (h:L.Rise) {k:ByteArray} {j:Nat} (hj:L.pos k<j) (hl:j<L.length):L.key j≠k:=fun e=>by
 have:=above h hj hl
 rw [e,ltB_irr] at this; cases this
theorem ne_not {L:Ch} {k:ByteArray} (h:L.has k=false) (hl:L.pos k<L.length):L.key (L.pos k)≠k:=fun e=>by
 have:=(has_iff L k).2 ⟨hl,e⟩
 rw [h] at this; cases this
def of (L:Ch) (k:ByteArray):List Ver:=if L.has k then L.chn (L.pos k) else []
def put (L:Ch) (k:ByteArray) (v:Ver):Ch:=if L.has k then L.set (L.pos k) (k,L.chn (L.pos k)++[v]) else L.take (L.pos k)++(k,[v]) :: L.drop (L.pos k)
def wgt (x:ByteArray × List Ver):Nat:=if weightL x.2=0 then 0 else weightL x.2+x.1.size
def live (L:Ch):Nat:=(L.map wgt).sum
def vers (L:Ch):Nat:=(L.map fun x=>x.2.length).sum
def swept (L:Ch) (f:Int):Ch:=(L.map fun x=>(x.1,sweepL x.2 f)).filter fun x=>!x.2.isEmpty
def hit (L:Ch) (k:ByteArray) (ab:Bool) (s:Int) (i:Nat):Bool:=atOk (L.chn i) s && (ltB k (L.key i) || (!ab && ((L.key i).toList == k.toList)))
def frm (L:Ch) (k:ByteArray) (ab:Bool) (s:Int):Nat:=((List.range L.length).find? (L.hit k ab s)).getD L.length
end Ch
structure Wr where
 key:ByteArray
 gone:Bool
 val:Val
namespace Wr
def cs (x:Wr):List Value:=[.string x.key,.bool x.gone,.bool x.val.num,.string x.val.txt,.int .u64 (x.val.bits:Int)]
def v (x:Wr):Value:=.agg #[.string x.key,.bool x.gone,.bool x.val.num,.string x.val.txt,.int .u64 (x.val.bits:Int)]
def Z:Wr:=⟨⟨#[]⟩,false,Val.V0⟩
def ver (x:Wr) (q:Int):Ver:=⟨q,x.gone,x.val⟩
end Wr
structure En where
 key:ByteArray
 seq:Int
 val:Val
namespace En
def cs (x:En):List Value:=[.string x.key,.int .i64 x.seq,.bool x.val.num,.string x.val.txt,.int .u64 (x.val.bits:Int)]
def v (x:En):Value:=.agg #[.string x.key,.int .i64 x.seq,.bool x.val.num,.string x.val.txt,.int .u64 (x.val.bits:Int)]
def Z:En:=⟨⟨#[]⟩,0,Val.V0⟩
end En
def keyOk (k:ByteArray):Bool:=decide (1<=k.size) && decide (k.size<=32)
def wrOk (p:Option ByteArray) (x:Wr):Bool:=keyOk x.key && (x.val.ok && ((!x.gone || x.val.isZ) && (match p with | none=>true | some k=>ltB k x.key)))
def prevW (l:List Wr) (i:Nat):Option ByteArray:=if i=0 then none else some (l.getD (i-1) Wr.Z).key
def mayW (l:List Wr):Bool:=decide (1<=l.length) && (decide (l.length<=16) && (List.range l.length).all fun i=>wrOk (prevW l i) (l.getD i Wr.Z))
namespace Ch
def withW (L:Ch) (l:List Wr) (q:Int):Ch:=l.foldl (fun L x=>L.put x.key (x.ver q)) L
def ents (L:Ch) (s:Int):List En:=L.filterMap fun x=>if atOk x.2 s then some ⟨x.1,(atL x.2 s).seq,(atL x.2 s).val⟩ else none
end Ch

end Go.Proofs.YtomjlopcifafpaaGreat

namespace Go.Proofs.YtomjlopcifafpaaGreat
open Go.RowKit

theorem infoVer:(Tryz.prog.info? 120).map (fun i=>(i.zero,i.size,i.bytes))=some (some Ver.Z.v,5,48):=by kernel_rfl
def vcs (l:List Ver):List Value:=l.flatMap Ver.cs
theorem vcs_len (l:List Ver):(vcs l).length=l.length * 5:=flat_len (f:=Ver.cs) (n:=5) (fun _=>rfl) l
def SlV (w:World) (A:Option Addr) (l:List Ver):Prop :=
 0<l.length->∃ b o,A=some ⟨b,o,none⟩∧b<w.heap.size∧∀ j,j<l.length →
  w.cell? ⟨b,o+j * 5,none⟩=some (.int .i64 (l.getD j Ver.Z).seq)∧w.cell? ⟨b,o+j * 5+1,none⟩=some (.bool (l.getD j Ver.Z).gone)∧w.cell? ⟨b,o+j * 5+2,none⟩=some (.bool (l.getD j Ver.Z).val.num) ∧
  w.cell? ⟨b,o+j * 5+3,none⟩=some (.string (l.getD j Ver.Z).val.txt)∧w.cell? ⟨b,o+j * 5+4,none⟩=some (.int .u64 ((l.getD j Ver.Z).val.bits:Int))
theorem SlV.below {w w':World} {A:Option Addr} {l:List Ver} (h:SlV w A l) (hb:Below w.heap.size w w'):SlV w' A l:=fun hp=>by
 obtain ⟨b,o,e,hl,hc⟩:=h hp
 refine ⟨b,o,e,Nat.lt_of_lt_of_le hl hb.size,fun j hj=>?_⟩
 obtain ⟨c0,c1,c2,c3,c4⟩:=hc j hj
 exact ⟨(hb.cell (p:=⟨b,o+j * 5,none⟩) hl).trans c0,(hb.cell (p:=⟨b,o+j * 5+1,none⟩) hl).trans c1,(hb.cell (p:=⟨b,o+j * 5+2,none⟩) hl).trans c2,(hb.cell (p:=⟨b,o+j * 5+3,none⟩) hl).trans c3,(hb.cell (p:=⟨b,o+j * 5+4,none⟩) hl).trans c4⟩
theorem SlV.nil (w:World) (A:Option Addr):SlV w A []:=fun h=>absurd h (by simp)
theorem SlV.at {w:World} {A:Option Addr} {l:List Ver} (h:SlV w A l) {j:Nat} (hj:j<l.length):∃ b o,A=some ⟨b,o,none⟩∧b<w.heap.size ∧
  w.cell? ⟨b,o+j * 5,none⟩=some (.int .i64 (l.getD j Ver.Z).seq)∧w.cell? ⟨b,o+j * 5+1,none⟩=some (.bool (l.getD j Ver.Z).gone)∧w.cell? ⟨b,o+j * 5+2,none⟩=some (.bool (l.getD j Ver.Z).val.num) ∧
  w.cell? ⟨b,o+j * 5+3,none⟩=some (.string (l.getD j Ver.Z).val.txt)∧w.cell? ⟨b,o+j * 5+4,none⟩=some (.int .u64 ((l.getD j Ver.Z).val.bits:Int)):=by
 obtain ⟨b,o,e,hl,hc⟩:=h (by omega)
 exact ⟨b,o,e,hl,hc j hj⟩
theorem SlV.drop {w:World} {b o:Nat} {l:List Ver} (h:SlV w (some ⟨b,o,none⟩) l) (k:Nat):SlV w (some ⟨b,o+k * 5,none⟩) (l.drop k):=fun hp=>by
 rw [List.length_drop] at hp
 obtain ⟨b',o',e,hl,hc⟩:=h (by omega)
 injection e with e
 injection e with e1 e2 _
 subst e1; subst e2
 refine ⟨b,o+k * 5,rfl,hl,fun j hj=>?_⟩
 rw [List.length_drop] at hj
 have:=hc (k+j) (by omega)
 rw [getD_drop,show o+k * 5+j * 5=o+(k+j) * 5 by omega]
 exact this
def OwnV (w:World) (B:Nat) (v:Value) (l:List Ver):Prop:=w.ownsRow B 120 5 v l.length (vcs l)
section
variable {w w':World} {B:Nat} {v:Value} {l:List Ver}
theorem OwnV.sl (h:OwnV w B v l):∃ A c,v=.slice A l.length c∧SlV w A l∧(0<l.length->∃ g,A=some ⟨g,0,none⟩):=by
 have h1:=h
 unfold OwnV at h1
 rcases h.2 with ⟨rfl,h0⟩ | ⟨g,cap,cur,rfl,hB,hg,_⟩
 ·exact ⟨none,0,by rw [h0],fun hp=>by omega,fun hp=>by omega⟩
 ·refine ⟨_,cap,rfl,fun hp=>⟨g,0,rfl,(Array.getElem?_eq_some_iff.1 hg).1,fun j hj=>?_⟩,fun _=>⟨g,rfl⟩⟩
  have at_:∀ i,i<5->w.cell? ⟨g,j * 5+i,none⟩=(l.getD j Ver.Z).cs[i]?:=fun i hi=>by
   rw [h1.cellAt (j * 5+i) (by omega),List.getD_eq_getElem?_getD,List.getElem?_eq_getElem hj]
   exact flat_at (f:=Ver.cs) (n:=5) (fun _=>rfl) l j i hj hi
  rw [Nat.zero_add]
  exact ⟨at_ 0 (by decide),at_ 1 (by decide),at_ 2 (by decide),at_ 3 (by decide),at_ 4 (by decide)⟩
theorem OwnV.sl2 (h:OwnV w B v l):∃ A c,v=.slice A l.length c∧SlV w A l∧l.length<=c∧(0<l.length->∃ g,A=some ⟨g,0,none⟩∧B<=g):=by
 obtain ⟨A,c,e,hs,_⟩:=h.sl
 rcases h.2 with ⟨e2,h0⟩ | ⟨g,cap,cur,e2,hB,hg,hc,_⟩
 ·exact ⟨A,c,e,hs,by omega,fun hp=>by omega⟩
 ·rw [e] at e2
  injection e2 with e3 _ e4
  exact ⟨A,c,e,hs,by rw [e4]; exact hc,fun _=>⟨g,e3,hB⟩⟩
theorem OwnV.below (h:OwnV w B v l) (hb:Below w.heap.size w w'):OwnV w' B v l:=by
 rcases h with ⟨h1,h2⟩
 refine ⟨h1,?_⟩
 rcases h2 with ⟨rfl,h0⟩ | ⟨g,cap,cur,rfl,hB,hg,r⟩
 ·exact .inl ⟨rfl,h0⟩
 ·refine .inr ⟨g,cap,cur,rfl,hB,?_,r⟩
  have hl:g<w.heap.size:=(Array.getElem?_eq_some_iff.1 hg).1
  rw [hb.block g hl]; exact hg
theorem OwnV.alloc (h:OwnV w B v l) (o:Obj):OwnV (w.alloc o) B v l:=World.ownsRow.alloc h o
theorem OwnV.lt (h:OwnV w B v l):∀ k,v.ownBlock=some k->B<=k∧k<w.heap.size:=World.ownsRow.lt h
theorem OwnV.made (w:World) (hB:B<=w.heap.size):OwnV (w.alloc (.cells #[] 120)) B (.slice (some ⟨w.heap.size,0,none⟩) 0 0) [] :=
 World.ownsRow_made w #[] 0 hB (Nat.zero_le _) (by simp)
end
theorem wp_putV {w:World} {B:Nat} {ops:Array Oper} {rest:List Oper} {o:Oper} {a:Act} {Q:Exit->Act->World->Prop} (hgd:o.guard=none) (s x:Operand)
  (ho:o.op=.call { callee:=.builtin .append,args:=#[s,x],argTypes:=#[124,124] })
  (v:Value) (l:List Ver) (hs:a.eval s=v) (hown:OwnV w B v l) (hB:B<=w.heap.size) (g:Nat) (y:Ver) (hx:a.eval x=.slice (some ⟨g,0,none⟩) 1 1)
  (hc:∀ i,i<5->w.cell? ⟨g,i,none⟩=y.cs[i]?) (hl:l.length<=1000000)
  (h:∀ v' w',OwnV w' B v' (l++[y])->w.grownBy w' v.ownBlock->wpList Tryz.prog ops Q rest (a.put o.dst v') w'):wpList Tryz.prog ops Q (o :: rest) a w:=by
 obtain ⟨i0,hi,hz0,hz1,hz2⟩:=info_parts infoVer
 refine wpList_append_own_at w hgd s x 124 ho B 120 i0 _ 5 48 Tryz.underlying124 hi hz0 hz1 hz2 rfl (by decide) v l.length _ hs hown ⟨g,0,none⟩ 1 1 y.cs hx rfl ?_ ?_
  (by unfold maxLen; omega) (by omega) hB ?_
 ·intro j u hj
  have hj5:j<5:=(List.getElem?_eq_some_iff.1 hj).1
  rw [show (⟨g,0,none⟩:Addr).add j=⟨g,j,none⟩ by simp [Addr.add]; omega,hc j hj5,hj]
 ·intro u hu
  unfold Ver.cs at hu
  simp at hu
  rcases hu with rfl | rfl | rfl | rfl | rfl<;>rfl
 ·intro v' w' h1 h2 _ _
  refine h v' w' ?_ h2
  have e:vcs l++y.cs=vcs (l++[y]):=by unfold vcs; simp
  rw [e] at h1
  unfold OwnV
  rw [List.length_append]
  exact h1

end Go.Proofs.YtomjlopcifafpaaGreat

namespace Go.Proofs.YtomjlopcifafpaaGreat
open Go.RowKit

def FitsL (l:List Ver):Prop:=∀ x,x ∈ l->x.val.Fits
theorem FitsL.get {l:List Ver} (h:FitsL l) {i:Nat} (hi:i<l.length):(l.getD i Ver.Z).val.Fits:=by
 rw [List.getD_eq_getElem?_getD,List.getElem?_eq_getElem hi]
 exact h _ (List.getElem_mem hi)
theorem right_no {l:List Ver} {i:Nat} (hi:i<l.length) (h:mayV (prevS l i) (l.getD i Ver.Z)=false):rightL l=false:=by
 cases q:rightL l with
 | false=>rfl
 | true=>have:=(rightL_iff l).1 q i hi; rw [h] at this; cases this
theorem prevS_succ (l:List Ver) (i:Nat):prevS l (i+1)=(l.getD i Ver.Z).seq:=by
 unfold prevS
 rw [if_neg (by omega),Nat.add_sub_cancel]

theorem cells_later {w w':World} {b o:Nat} {x:Ver} (hb:Below w.heap.size w w') (h:w.cell? ⟨b,o,none⟩=some (.int .i64 x.seq)∧w.cell? ⟨b,o+1,none⟩=some (.bool x.gone)∧w.cell? ⟨b,o+2,none⟩=some (.bool x.val.num)∧w.cell? ⟨b,o+3,none⟩=some (.string x.val.txt)∧w.cell? ⟨b,o+4,none⟩=some (.int .u64 (x.val.bits:Int))) :
  w'.cell? ⟨b,o,none⟩=some (.int .i64 x.seq)∧w'.cell? ⟨b,o+1,none⟩=some (.bool x.gone)∧w'.cell? ⟨b,o+2,none⟩=some (.bool x.val.num)∧w'.cell? ⟨b,o+3,none⟩=some (.string x.val.txt)∧w'.cell? ⟨b,o+4,none⟩=some (.int .u64 (x.val.bits:Int)):=by
 obtain ⟨c0,c1,c2,c3,c4⟩:=h
 exact ⟨(hb.cell (p:=⟨b,o,none⟩) (block_lt_of_cell c0)).trans c0,(hb.cell (p:=⟨b,o+1,none⟩) (block_lt_of_cell c1)).trans c1,(hb.cell (p:=⟨b,o+2,none⟩) (block_lt_of_cell c2)).trans c2,(hb.cell (p:=⟨b,o+3,none⟩) (block_lt_of_cell c3)).trans c3,(hb.cell (p:=⟨b,o+4,none⟩) (block_lt_of_cell c4)).trans c4⟩

theorem rWeight9 (l:List Ver) (A:Option Addr) (c:Nat) (w:World) (h:SlV w A l) (hf:FitsL l) (ht:∀ x,x ∈ l->x.val.txt.size<=1000) (hl:l.length<=1000) :
  Calls Tryz.prog 163 #[.slice A l.length c] w fun e w'=>e=.returned (.int .i64 (weightL l:Nat))∧Below w.heap.size w w':=by
 obtain ⟨n,hn⟩:=nmq (l.length)
 obtain ⟨R,hR⟩:=nmq (weightL l)
 rw [<-hn] at hl
 rw [<-hn,<-hR]
 have HR:=qh hR
 have HN:=qh hn
 have B0:=qh (Below.refl w.heap.size w)
 by_cases q:n=0
 ·subst q
  have RT:=qh (show R=0 by rw [HR.out]; unfold weightL; rw [if_pos (.inl HN.out.symm)])
  clear hR hn h hf ht hl HN
  go_enter Tryz.func163,Tryz.ntmps163
  go_wp2_with fail
  go_ret
  exact ⟨by rw [RT.out]; rfl,B0.out⟩
 ·obtain ⟨i,hi⟩:=nmq (n-1)
  have hi':i<l.length:=by omega
  obtain ⟨b,o,rfl,hb,c0,c1,c2,c3,c4⟩:=h.at hi'
  have XF:=hf.get hi'
  have XT:(l.getD i Ver.Z).val.txt.size<=1000:=by
   rw [List.getD_eq_getElem?_getD,List.getElem?_eq_getElem hi']
   exact ht _ (List.getElem_mem hi')
  have ER0:R=if (l.getD i Ver.Z).gone=true then 0 else (l.getD i Ver.Z).val.pack.size:=by
   rw [hR]
   have e:lastL l=l.getD i Ver.Z:=by unfold lastL; rw [<-hn,<-hi]
   unfold weightL
   rw [e]
   by_cases g:(l.getD i Ver.Z).gone=true
   ·rw [if_pos (.inr g),if_pos g]
   ·rw [if_neg (fun z=>z.elim (fun z=>by omega) g),if_neg g]
  obtain ⟨x,hx⟩:=nmq (l.getD i Ver.Z)
  rw [<-hx] at c0 c1 c2 c3 c4 XF XT ER0
  obtain ⟨s,g,v⟩:=x
  obtain ⟨m,t,k⟩:=v
  change w.cell? _=some (.bool g) at c1
  change w.cell? _=some (.bool m) at c2
  change w.cell? _=some (.string t) at c3
  change w.cell? _=some (.int .u64 (k:Int)) at c4
  have VP:=qh (vrPack ⟨m,t,k⟩ w XF XT)
  obtain ⟨S,hS⟩:=nmq (Val.pack ⟨m,t,k⟩)
  rw [<-hS] at VP
  have ER:R=if g=true then 0 else S.size:=by rw [hS]; exact ER0
  have VP:Hid (Calls Tryz.prog 180 #[.agg #[.bool m,.string t,.int .u64 (k:Int)]] w fun e w'=>e=.returned (.string S)∧Below w.heap.size w w'):=VP
  have i2:(0:Int)<=(i:Int):=by omega
  have i3:(i:Int)<(n:Int):=by omega
  have i1:(n:Int)-1=(i:Int):=by omega
  have HE:=qh ER
  clear ER ER0 hx hS XF XT h hf ht hR hn HR HN hi hi' hb c0
  cases g with
  | true =>
   go_enter Tryz.func163,Tryz.ntmps163
   go_wp2_with fail
   go_ret
   exact ⟨by rw [HE.out]; rfl,B0.out⟩
  | false =>
   go_enter Tryz.func163,Tryz.ntmps163
   go_wp2_with fail
   refine VP.out.mono ?_
   rintro e w1 ⟨rfl,hb1⟩
   have B1:=qh hb1
   clear hb1
   go_wp2_with fail
   go_ret
   exact ⟨by rw [HE.out]; rfl,B1.out⟩
end Go.Proofs.YtomjlopcifafpaaGreat
