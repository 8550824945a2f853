/- Proved parts: B1u B1v B1w B1x B1y B1n B1e. Conditions: each theorem's own. -/
import Derived.Test.YtoljhoabbaigdaaGreatM14
import Derived.Test.YtoljhoabbaigdaaGreatM23
import Derived.Test.YtoljhoabbaigdaaGreatM12
import Derived.Test.YtoljhoabbaigdaaGreatM9
import Derived.Test.YtoljhoabbaigdaaGreatQ0
set_option maxRecDepth 100000
set_option maxHeartbeats 8000000
namespace Go.Proofs.YtoljhoabbaigdaaGreat
open Go.RowKit

def rmc (lb:Value) (g1 g2 g3:Int) (q:Nat) (Lv:Value):List Value:=[lb,.int .i64 g1,.int .i64 g2,.int .i64 g3,.pointer (some ⟨q,0,none⟩),Lv]
def spcE (r:Rg) (L:Ch) (ws:List Wr) (quota most:Int):Int:=if most<=(r.seq:Int) then 17 else if quota<((L.withW ws ((r.seq:Int)+1)).live:Int) then 15 else 0
end Go.Proofs.YtoljhoabbaigdaaGreat

namespace Go.Proofs.YtoljhoabbaigdaaGreat
open Go.RowKit

section
variable {P:Program} {ops:Array Oper} {Q:Exit->Act->World->Prop} {md:Region.Mode} {S:World->Prop}
theorem rgnSkip (i:Nat) {oi:Oper} {fuel:Nat} {listed:Array Bool} {a:Act} {w:World} (hi:ops.toList[i]?=some oi)
  (hs:Region.noSelect ops=true) (hf:Region.free md ops listed i=true) (hr:(Region.ready md ops listed).contains i=true)
  (hQ:∀ c a w,Q (.panic c) (a.put oi.dst undef) w->Q (.panic c) a w) (hw:Region.wanted oi (yielded ops a.tmps)=false) (hS:S w)
  (h:wpAnyH P md ops Q S fuel (listed.setIfInBounds i true) (a.put oi.dst undef) w):wpAnyH P md ops Q S (fuel+1) listed a w :=
 wpAnyH_take (by rw [<-Array.getElem?_toList]; exact hi) hs hf hr hQ (.inr ⟨hw,rfl⟩) hS h
end

theorem prevW_succ (l:List Wr) (i:Nat):prevW l (i+1)=some (l.getD i Wr.Z).key:=by
 unfold prevW
 rw [if_neg (by omega),Nat.add_sub_cancel]
theorem mayW_no {l:List Wr} {i:Nat} (hi:i<l.length) (h:wrOk (prevW l i) (l.getD i Wr.Z)=false):mayW l=false:=by
 cases q:mayW l with
 | false=>rfl
 | true =>
  unfold mayW at q
  simp only [Bool.and_eq_true,List.all_eq_true,List.mem_range] at q
  have:=q.2.2 i hi
  rw [h] at this; cases this
theorem mayW_yes {l:List Wr} (h1:1<=l.length) (h2:l.length<=16) (h:∀ j,j<l.length->wrOk (prevW l j) (l.getD j Wr.Z)=true):mayW l=true:=by
 unfold mayW
 simp only [Bool.and_eq_true,List.all_eq_true,List.mem_range,decide_eq_true_eq]
 exact ⟨h1,h2,h⟩
theorem mayW_len {l:List Wr} (h:¬ (1<=l.length∧l.length<=16)):mayW l=false:=by
 cases q:mayW l with
 | false=>rfl
 | true =>
  unfold mayW at q
  simp only [Bool.and_eq_true,decide_eq_true_eq] at q
  exact absurd ⟨q.1,q.2.1⟩ h
def FitsW (l:List Wr):Prop:=∀ x,x ∈ l->x.val.Fits∧x.key.size<=1000000
theorem FitsW.get {l:List Wr} (h:FitsW l) {i:Nat} (hi:i<l.length):(l.getD i Wr.Z).val.Fits∧(l.getD i Wr.Z).key.size<=1000000:=by
 rw [List.getD_eq_getElem?_getD,List.getElem?_eq_getElem hi]
 exact h _ (List.getElem_mem hi)

end Go.Proofs.YtoljhoabbaigdaaGreat

namespace Go.Proofs.YtoljhoabbaigdaaGreat
open Go.RowKit

structure RoomG (w:World) (p q:Nat) (v lb:Value) (g2 g3:Int) (r:Rg) (G:Nat->Prop) (A:Option Addr) (c:Nat) (L:Ch):Prop where
 row:RowAt w p (rmc lb (r.size:Int) g2 g3 q (.slice A L.length c)) 139
 ring:RefG w q v r
 sl:SlO w G A L
 lt:∀ x,G x->x<w.heap.size
theorem RoomG.below {w w':World} {p q:Nat} {v lb:Value} {g2 g3:Int} {r:Rg} {G:Nat->Prop} {A:Option Addr} {c:Nat} {L:Ch} (h:RoomG w p q v lb g2 g3 r G A c L) (hb:Below w.heap.size w w'):RoomG w' p q v lb g2 g3 r G A c L :=
 ⟨h.row.below hb,h.ring.below hb,h.sl.keep (fun k hk=>hb.block k (h.lt k hk)) hb.size,fun x hx=>Nat.lt_of_lt_of_le (h.lt x hx) hb.size⟩
theorem RoomG.c5 {w:World} {p q:Nat} {v lb:Value} {g2 g3:Int} {r:Rg} {G:Nat->Prop} {A:Option Addr} {c:Nat} {L:Ch} (h:RoomG w p q v lb g2 g3 r G A c L):w.cell? ⟨p,5,none⟩=some (.slice A L.length c):=by
 have:=h.row.cell 5
 simpa only [rmc,List.getElem?_cons_succ,List.getElem?_cons_zero] using this
theorem GoodC.of {L:Ch} (h:GoodC L) (k:ByteArray):(L.of k).length<=1000:=by
 unfold Ch.of
 cases q:L.has k with
 | false=>simp
 | true =>
  have:=((Ch.has_iff L k).1 q).1
  exact (h.get this).2.2.1

def SepR (p q:Nat) (v:Value) (G:Nat->Prop):Prop:=¬ rfoot q v p∧∀ x,G x->¬ rfoot q v x∧x≠p
def comE (r:Rg) (L:Ch) (ws:List Wr) (x quota most:Int):Int:=if mayW ws=false then 1 else if spcE r L ws quota most≠0 then spcE r L ws quota most else r.no x
def comN (r:Rg) (L:Ch) (ws:List Wr) (x quota most:Int):Int:=if comE r L ws x quota most=0 then (r.seq:Int)+1 else 0
def comR (r:Rg) (L:Ch) (ws:List Wr) (x quota most:Int):Rg:=if comE r L ws x quota most=0 then r.push x else r
def comL (r:Rg) (L:Ch) (ws:List Wr) (x quota most:Int):Ch:=if comE r L ws x quota most=0 then L.withW ws ((r.seq:Int)+1) else L
def LeftR1 (w:World) (p q:Nat) (v lb:Value) (g2 g3:Int) (G:Nat->Prop) (r:Rg) (L:Ch) (w':World):Prop :=
 Chg (fun k=>k=p∨rfoot q v k) w w'∧∃ v' G' A' c',RoomG w' p q v' lb g2 g3 r G' A' c' L∧SepR p q v' G'∧(∀ k,rfoot q v' k->rfoot q v k∨w.heap.size<=k)∧∀ k,G' k->G k∨w.heap.size<=k
variable {w w' w2 w3 w4:World} {p q:Nat} {v lb:Value} {g2 g3:Int} {r r':Rg} {G:Nat->Prop} {A:Option Addr} {c:Nat} {L M:Ch}
theorem LeftR1.same (h:RoomG w p q v lb g2 g3 r G A c L) (s:SepR p q v G) (hb:Below w.heap.size w w'):LeftR1 w p q v lb g2 g3 G r L w' :=
 ⟨Chg.of_below hb,v,G,A,c,h.below hb,s,fun _ e=>.inl e,fun _ e=>.inl e⟩
theorem LeftR1.pushed (h:RoomG w p q v lb g2 g3 r G A c L) (s:SepR p q v G) (hb:Below w.heap.size w w2) (hp:LeftG q v w2 r' w3) (hs:r'.size=r.size) :
  Chg (rfoot q v) w w3∧∃ v',RoomG w3 p q v' lb g2 g3 r' G A c L∧SepR p q v' G∧∀ k,rfoot q v' k->rfoot q v k∨w.heap.size<=k:=by
 obtain ⟨hc,v',hr,hk⟩:=hp
 have h2:=h.below hb
 have hf:∀ k,rfoot q v' k->rfoot q v k∨w.heap.size<=k:=fun k e=>(hk k e).imp id fun e=>Nat.le_trans hb.size e
 have pl:=h.row.lt
 refine ⟨(Chg.of_below hb).then hc,v',⟨?_,hr,?_,?_⟩,⟨?_,?_⟩,hf⟩
 ·rw [hs]; exact h2.row.keep hc s.1
 ·exact h2.sl.keep (fun k e=>hc.block k (h2.lt k e) (s.2 k e).1) hc.size
 ·exact fun x e=>Nat.lt_of_lt_of_le (h2.lt x e) hc.size
 ·intro e
  rcases hf p e with e | e
  ·exact s.1 e
  ·omega
 ·intro x e
  refine ⟨fun f=>?_,(s.2 x e).2⟩
  rcases hf x f with f | f
  ·exact (s.2 x e).1 f
  ·have:=h.lt x e; omega
theorem LeftR1.with {v':Value} (hc:Chg (rfoot q v) w w3) (h3:RoomG w3 p q v' lb g2 g3 r' G A c L) (s:SepR p q v' G) (hf:∀ k,rfoot q v' k->rfoot q v k∨w.heap.size<=k)
  {x:Nat} {A':Option Addr} {c':Nat} (hx:w3.heap.size<=x) (hs:SlO w4 (fun y=>G y∨x<y) A' M) (hb:Below w3.heap.size w3 w4) :
  LeftR1 w p q v lb g2 g3 G r' M (w4.setCell ⟨p,5,none⟩ (.slice A' M.length c')):=by
 have pl:=h3.row.lt
 have h4:=h3.below hb
 have sb:=hs.bound
 have bk:∀ k,k≠p->(w4.setCell ⟨p,5,none⟩ (.slice A' M.length c')).heap[k]?=w4.heap[k]?:=fun k e=>Below.heap_setCell _ _ _ _ e
 have sz:(w4.setCell ⟨p,5,none⟩ (.slice A' M.length c')).heap.size=w4.heap.size:=by simp
 refine ⟨((hc.mono fun _ e=>.inr e).then (Chg.of_below hb)).setCell (.inl (.inl rfl)) _,v',fun y=>(G y∨x<y)∧y<w4.heap.size,A',c',⟨?_,?_,?_,?_⟩,⟨s.1,?_⟩,hf,?_⟩
 ·exact h4.row.set 5 _
 ·exact h4.ring.keep fun k e=>bk k fun ek=>s.1 (ek ▸ e)
 ·refine sb.keep (fun k e=>bk k fun ek=>?_) (Nat.le_of_eq sz.symm)
  rcases e.1 with e | e
  ·exact (s.2 k e).2 ek
  ·omega
 ·intro y e; rw [sz]; exact e.2
 ·intro y e
  rcases e.1 with e | e
  ·exact s.2 y e
  ·refine ⟨fun f=>?_,by omega⟩
   have:=h3.ring.lt y f; omega
 ·intro y e
  rcases e.1 with e | e
  ·exact .inl e
  ·have:=hc.size; exact .inr (by omega)
theorem SlWr.chg {F:Nat->Prop} {A:Option Addr} {l:List Wr} (h:SlWr w A l) (hc:Chg F w w') (hn:0<l.length->∀ a,A=some a->¬ F a.block):SlWr w' A l:=fun hp=>by
 obtain ⟨b,o,e,hl,hd⟩:=h hp
 have hn:=hn hp _ e
 refine ⟨b,o,e,Nat.lt_of_lt_of_le hl hc.size,fun j hj=>?_⟩
 obtain ⟨c0,c1,c2,c3,c4⟩:=hd j hj
 exact ⟨hc.cell c0 hn,hc.cell c1 hn,hc.cell c2 hn,hc.cell c3 hn,hc.cell c4 hn⟩
theorem news (lb:Value) (g1 s0:Nat) (g2 g3:Int) (w w1:World) (b1:Below w.heap.size w w1) (e1:w1.heap.size=w.heap.size+1) :
  ∃ x q,Ending.returned (.pointer (some ⟨w.heap.size+1+1,0,none⟩))=.returned (.pointer (some ⟨x,0,none⟩))∧w.heap.size<=x∧w.heap.size<=q ∧
   RoomG ((w1.alloc (.cells #[.int .i64 (g1:Int),.int .i64 (s0:Int),.slice none 0 0] 136)).alloc (.cells #[lb,.int .i64 (g1:Int),.int .i64 g2,.int .i64 g3,.pointer (some ⟨w.heap.size+1,0,none⟩),.slice none 0 0] 139)) x q (.slice none 0 0) lb g2 g3 ⟨g1,s0,[]⟩ (fun _=>False) none 0 []∧SepR x q (.slice none 0 0) (fun _=>False) ∧
   Below w.heap.size w ((w1.alloc (.cells #[.int .i64 (g1:Int),.int .i64 (s0:Int),.slice none 0 0] 136)).alloc (.cells #[lb,.int .i64 (g1:Int),.int .i64 g2,.int .i64 g3,.pointer (some ⟨w.heap.size+1,0,none⟩),.slice none 0 0] 139)):=by
 obtain ⟨w2,hw2⟩:=nmq (w1.alloc (.cells #[.int .i64 (g1:Int),.int .i64 (s0:Int),.slice none 0 0] 136))
 have e2:w2.heap.size=w.heap.size+1+1:=by rw [hw2]; simp [e1]
 have b2:Below w.heap.size w w2:=by rw [hw2]; exact b1.alloc (by omega) _
 have r2:RefG w2 (w.heap.size+1) (.slice none 0 0) ⟨g1,s0,[]⟩:=by
  rw [hw2,<-e1]
  exact ⟨RowAt.new w1 [.int .i64 (g1:Int),.int .i64 (s0:Int),.slice none 0 0] _,Own.nil _ _⟩
 have r3:=RowAt.new w2 [lb,.int .i64 (g1:Int),.int .i64 g2,.int .i64 g3,.pointer (some ⟨w.heap.size+1,0,none⟩),.slice none 0 0] 139
 rw [<-hw2]
 rw [e2] at r3
 refine ⟨_,w.heap.size+1,rfl,by omega,by omega,⟨r3,r2.below ((Below.refl _ _).alloc (Nat.le_refl _) _),SlO.nil _ _ _,fun _ f=>f.elim⟩,⟨fun f=>?_,fun _ f=>f.elim⟩,b2.alloc (by omega) _⟩
 rcases f with f | f
 ·omega
 ·cases f
def En.same (x y:En):Bool:=(x.key.toList == y.key.toList) && ((x.seq == y.seq) && ((x.val.num == y.val.num) && ((x.val.txt.toList == y.val.txt.toList) && ((x.val.bits:Int) == (y.val.bits:Int)))))
def SlEn (w:World) (A:Option Addr) (l:List En):Prop :=
 0<l.length->∃ b o,A=some ⟨b,o,none⟩∧b<w.heap.size∧∀ j,j<l.length →
  w.cell? ⟨b,o+j * 5,none⟩=some (.string (l.getD j En.Z).key)∧w.cell? ⟨b,o+j * 5+1,none⟩=some (.int .i64 (l.getD j En.Z).seq)∧w.cell? ⟨b,o+j * 5+2,none⟩=some (.bool (l.getD j En.Z).val.num) ∧
  w.cell? ⟨b,o+j * 5+3,none⟩=some (.string (l.getD j En.Z).val.txt)∧w.cell? ⟨b,o+j * 5+4,none⟩=some (.int .u64 ((l.getD j En.Z).val.bits:Int))
theorem SlEn.at {w:World} {A:Option Addr} {l:List En} (h:SlEn w A l) {j:Nat} (hj:j<l.length):∃ b o,A=some ⟨b,o,none⟩∧b<w.heap.size ∧
  w.cell? ⟨b,o+j * 5,none⟩=some (.string (l.getD j En.Z).key)∧w.cell? ⟨b,o+j * 5+1,none⟩=some (.int .i64 (l.getD j En.Z).seq)∧w.cell? ⟨b,o+j * 5+2,none⟩=some (.bool (l.getD j En.Z).val.num) ∧
  w.cell? ⟨b,o+j * 5+3,none⟩=some (.string (l.getD j En.Z).val.txt)∧w.cell? ⟨b,o+j * 5+4,none⟩=some (.int .u64 ((l.getD j En.Z).val.bits:Int)):=by
 obtain ⟨b,o,e,hl,hc⟩:=h (by omega)
 exact ⟨b,o,e,hl,hc j hj⟩
theorem sw5 {w w':World} {b o:Nat} {v0 v1 v2 v3 v4:Value} (hb:Below w.heap.size w w') (h:w.cell? ⟨b,o,none⟩=some v0∧w.cell? ⟨b,o+1,none⟩=some v1∧w.cell? ⟨b,o+2,none⟩=some v2∧w.cell? ⟨b,o+3,none⟩=some v3∧w.cell? ⟨b,o+4,none⟩=some v4) :
  w'.cell? ⟨b,o,none⟩=some v0∧w'.cell? ⟨b,o+1,none⟩=some v1∧w'.cell? ⟨b,o+2,none⟩=some v2∧w'.cell? ⟨b,o+3,none⟩=some v3∧w'.cell? ⟨b,o+4,none⟩=some v4:=by
 have hl:b<w.heap.size:=block_lt_of_cell h.1
 exact ⟨(hb.cell (p:=⟨b,o,none⟩) hl).trans h.1,(hb.cell (p:=⟨b,o+1,none⟩) hl).trans h.2.1,(hb.cell (p:=⟨b,o+2,none⟩) hl).trans h.2.2.1,(hb.cell (p:=⟨b,o+3,none⟩) hl).trans h.2.2.2.1,(hb.cell (p:=⟨b,o+4,none⟩) hl).trans h.2.2.2.2⟩
end Go.Proofs.YtoljhoabbaigdaaGreat
